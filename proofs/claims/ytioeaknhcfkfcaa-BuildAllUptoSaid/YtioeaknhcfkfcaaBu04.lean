/-
  bytes.Clone, append of bytes, and what is there, in order.
  bytes.Equal; whether a piece is of the body that is under way.
  A joiner's memory behind a step.
  A piece is kept.
  What Take answers; a new row of parts.
  A joiner takes a piece.
  A row of pieces.
  A body is split.
  The document's example: a body in three pieces.
  append to an empty row; a piece as the program's; a nil joiner.
  A piece that came in.
  The document's pieces: From, Same, and a row of them.
-/
import Derived.Test.YtioeaknhcfkfcaaBu03
import Derived.Lib.SlBytesConst
import Derived.ArgAppend
import Derived.SizedLaws
import Derived.Lib.SmallJoins
namespace Go.Proofs.Ytioeaknhcfkfcaa
open Go.RowKit

set_option maxHeartbeats 800000 in
theorem clone_any (M : Nat) (v : Value) (l : List Int) (w : World) (h : HoldsB w M v l) (hr : l.length ≤ 140737488351232) :
    Calls Try.prog 40 #[v] w fun r w' => ∃ v', r = .returned v' ∧ w'.ownsRow w.heap.size 5 1 v' l.length (bv l) ∧ Below w.heap.size w w' := by
  obtain ⟨i0, hi, hz0, hz1, hz2⟩ := info_parts info5
  have q23 : ∀ (w : World) (a : Option Addr) (n c n' c' : Nat), (binOp .eql 39 (.slice a n c) (.slice none n' c')).run Try.prog w = .ok (.bool a.isNone) w := fun w a n c n' c' => Lib.run_eql_slice_nil w _ _ a n c n' c' Try.underlying39
  obtain ⟨a, n, cap, rfl, hn⟩ := h.slice
  cases a with
  | none =>
    have hl : l = [] := by
      obtain ⟨a', cap', h1, h2, h3, h4, h5, h6, h7⟩ := h
      simp only [Value.slice.injEq] at h1
      have := h4 h1.1.symm
      exact List.length_eq_zero_iff.1 (by omega)
    have hc : cap = 0 := by
      obtain ⟨a', cap', h1, h2, h3, h4, h5, h6, h7⟩ := h
      simp only [Value.slice.injEq] at h1
      have := h4 h1.1.symm
      omega
    subst hl hc
    have hn0 : n = 0 := by simpa using hn
    subst hn0
    clear h hn
    go_enter Try.func40, Try.ntmps40
    go_wp2_with fail
    go_ret
    exact ⟨_, rfl, World.ownsRow_nil _ _ _ _, Below.refl _ _⟩
  | some ad =>
    have HH := Lib.hid h
    have HN := Lib.hid hn
    have hn2 : n ≤ 140737488351232 := by omega
    clear h hn hr
    go_enter Try.func40, Try.ntmps40
    go_wp2_with (at_builtin; refine wpList_append_own _ rfl _ _ 39 rfl w.heap.size 5 i0 (.int .u8 0) 1 1 Try.underlying39 hi hz0 hz1 hz2 rfl (by decide) _ _ _ rfl (World.ownsRow_made w #[] 0 (Nat.le_refl _) (by decide) rfl) ad n cap (bv l) rfl ?c0 ?c1 ?c2 ?c3 ?c4 ?c5 ?_)
    case c0 => rw [bv_len, HN.out]
    case c1 => exact (HH.out.alloc _).news
    case c2 => exact bv_one _
    case c3 => unfold maxLen; omega
    case c4 => omega
    case c5 => simp
    · intro v' w2 hown' hgrow _
      have HO2 := Lib.hid hown'
      have HG2 := Lib.hid hgrow
      clear hown' hgrow
      go_wp2_with fail
      go_ret
      refine ⟨_, rfl, ?_, (more (Below.refl _ _) _).grown HG2.out (by simp) (fun k hk => ?_)⟩
      · have h1 := HO2.out
        have h2 := HN.out
        subst h2
        exact h1
      · simp [Value.ownBlock] at hk
        omega
/-- append of bytes that stand somewhere, to a row of the call's own. -/
theorem wpList_append_holds {w : World} {ops : Array Oper} {rest : List Oper} {o : Oper} {a : Act} {Q : Exit → Act → World → Prop} (hgd : o.guard = none) (s x : Operand)
    (ho : o.op = .call { callee := .builtin .append, args := #[s, x], argTypes := #[39, 39] })
    (base : Nat) (v : Value) (n : Nat) (xs : List Value) (hs : a.eval s = v) (hown : w.ownsRow base 5 1 v n xs)
    (M : Nat) (u : Value) (p : List Int) (hx : a.eval x = u) (hp : HoldsB w M u p) (h63 : n + p.length ≤ 140737488355328) (hbase : base ≤ w.heap.size)
    (h : ∀ v' w', w'.ownsRow base 5 1 v' (n + p.length) (xs ++ bv p) → w.grownBy w' v.ownBlock → wpList Try.prog ops Q rest (a.put o.dst v') w') : wpList Try.prog ops Q (o :: rest) a w := by
  obtain ⟨i0, hi, hz0, hz1, hz2⟩ := info_parts info5
  obtain ⟨ad, m, cap, rfl, hm⟩ := hp.slice
  cases ad with
  | none =>
    obtain ⟨a', cap', h1, h2, h3, h4, h5, h6, h7⟩ := hp
    simp only [Value.slice.injEq] at h1
    have hc := h4 h1.1.symm
    have hl : p = [] := List.length_eq_zero_iff.1 (by omega)
    subst hl
    have hx' : a.eval x = .slice none 0 0 := by rw [hx]; simp only [Value.slice.injEq, true_and]; exact ⟨by simpa using hm, by omega⟩
    exact wpList_append_own_none hgd s x 39 ho base 5 i0 1 Try.underlying39 hi v n xs hs hown hx' (h v w (by simpa using hown) ⟨rfl, rfl, rfl, Nat.le_refl _, fun _ _ _ => rfl⟩)
  | some ad =>
    refine wpList_append_own w hgd s x 39 ho base 5 i0 (.int .u8 0) 1 1 Try.underlying39 hi hz0 hz1 hz2 rfl (by decide) v n xs hs hown ad m cap (bv p) hx (by rw [bv_len]; omega) hp.news (bv_one _) (by unfold maxLen; omega) (by omega) hbase fun v' w' h1 h2 _ => ?_
    rw [hm] at h1
    exact h v' w' h1 h2

theorem row_shape {w : World} {base n : Nat} {v : Value} {xs : List Value} (h : w.ownsRow base 5 1 v n xs) : ∃ a m c, v = .slice a m c := by
  rcases h.2 with ⟨rfl, _⟩ | ⟨g, cap, cur, rfl, _⟩ <;> exact ⟨_, _, _, rfl⟩
theorem row_mono {w : World} {base base' n : Nat} {v : Value} {xs : List Value} (h : w.ownsRow base 5 1 v n xs) (hb : base' ≤ base) : w.ownsRow base' 5 1 v n xs := by
  obtain ⟨h1, h2⟩ := h
  refine ⟨h1, ?_⟩
  rcases h2 with h2 | ⟨g, cap, cur, e, hg, r⟩
  · exact .inl h2
  · exact .inr ⟨g, cap, cur, e, Nat.le_trans hb hg, r⟩
def texts (ps : List PtV) : List Int := (ps.map fun x => x.l).flatten
theorem texts_len (ps : List PtV) : (texts ps).length = lens ps := by
  unfold texts lens
  rw [List.length_flatten, List.map_map]
  rfl
theorem texts_succ {ps : List PtV} {i : Nat} (hi : i < ps.length) : texts (ps.take (i + 1)) = texts (ps.take i) ++ ps[i].l := by
  unfold texts
  rw [List.take_add_one, List.getElem?_eq_getElem hi]
  simp only [Option.toList, List.map_append, List.flatten_append, List.map_cons, List.map_nil, List.flatten_cons, List.flatten_nil, List.append_nil]
end Go.Proofs.Ytioeaknhcfkfcaa

namespace Go.Proofs.Ytioeaknhcfkfcaa
open Go.RowKit

theorem bytes_inj {p q : List Int} (hp : Bytes p) (hq : Bytes q) : (p.map fun n => UInt8.ofNat n.toNat) = (q.map fun n => UInt8.ofNat n.toNat) ↔ p = q := by
  refine ⟨fun h => ?_, fun h => by rw [h]⟩
  induction p generalizing q with
  | nil => cases q with
    | nil => rfl
    | cons y r => simp at h
  | cons x p ih => cases q with
    | nil => simp at h
    | cons y r =>
      simp only [List.map_cons, List.cons.injEq] at h
      have hx := hp x (by simp)
      have hy := hq y (by simp)
      have h1 := congrArg UInt8.toNat h.1
      rw [UInt8.toNat_ofNat', UInt8.toNat_ofNat'] at h1
      have e : x = y := by omega
      rw [e, ih (fun z hz => hp z (List.mem_cons_of_mem _ hz)) (fun z hz => hq z (List.mem_cons_of_mem _ hz)) h.2]
theorem text_eq {p q : List Int} (hp : Bytes p) (hq : Bytes q) : ((strOfNums p).toList == (strOfNums q).toList) = decide (p = q) := by
  rw [Bool.eq_iff_iff, beq_iff_eq, decide_eq_true_iff]
  refine ⟨fun h => (bytes_inj hp hq).1 ?_, fun h => by rw [h]⟩
  have h2 : (strOfNums p).data.toList = (strOfNums q).data.toList := by
    rw [ByteArray.toList_eq, ByteArray.toList_eq] at h
    exact h
  exact h2
/-- What look answers. -/
def lookE (J : PjM) (p : PV) : Int :=
  if rightB p = false then 1 else if (!J.began || decide (J.id < p.id)) = true then 0 else if p.id < J.id ∨ J.ps.length = 0 then 27 else if p.many = J.ps.length then 0 else 10
end Go.Proofs.Ytioeaknhcfkfcaa

namespace Go.Proofs.Ytioeaknhcfkfcaa
open Go.RowKit

theorem cells_ne {w : World} {a b : Nat} {c1 c2 : Array Value} {t1 t2 : TypeId} {f1 f2 : Nat × Nat} (h1 : w.heap[a]? = some (.cells c1 t1 f1)) (h2 : w.heap[b]? = some (.cells c2 t2 f2)) (h : t1 ≠ t2) : a ≠ b := by
  rintro rfl
  rw [h1] at h2
  injection h2 with e
  injection e with _ e
  exact h e
theorem pcells_cons (x : PtV) (r : List PtV) : pcells (x :: r) = .bool x.there :: x.v :: pcells r := rfl
theorem pcells_set {ps : List PtV} {i : Nat} (hi : i < ps.length) (x : PtV) : ((pcells ps).set (i * 2) (.bool x.there)).set (i * 2 + 1) x.v = pcells (ps.set i x) := by
  induction ps generalizing i with
  | nil => simp at hi
  | cons y r ih =>
    cases i with
    | zero => simp [pcells_cons]
    | succ i =>
      have := ih (i := i) (by simpa using hi)
      rw [pcells_cons, show (i + 1) * 2 = i * 2 + 1 + 1 by omega, List.set_cons_succ, List.set_cons_succ, List.set_cons_succ, List.set_cons_succ, this, List.set_cons_succ, pcells_cons]
/-- No cell of a row of parts is a byte. -/
theorem pcells_no {ps : List PtV} (h : ∀ x ∈ ps, ∃ a n c, x.v = .slice a n c) : ∀ (i : Nat) (z : Int), (pcells ps).toArray[i]? ≠ some (.int .u8 z) := by
  intro i z
  rw [List.getElem?_toArray]
  intro e
  have hm := List.mem_of_getElem? e
  unfold pcells at hm
  obtain ⟨l, hl, hz⟩ := List.mem_flatten.1 hm
  obtain ⟨x, hx, rfl⟩ := List.mem_map.1 hl
  obtain ⟨a, n, c, hv⟩ := h x hx
  unfold ptc at hz
  rw [hv] at hz
  simp at hz
theorem HoldsB.beside {w w' : World} {M b : Nat} {cs : Array Value} {t : TypeId} {fr : Nat × Nat} {v : Value} {l : List Int} (h : HoldsB w M v l) (hb : Blk w b (.cells cs t fr)) (hn : ∀ (i : Nat) (z : Int), cs[i]? ≠ some (.int .u8 z))
    (hs : w.heap.size ≤ w'.heap.size) (ho : ∀ k, k < w.heap.size → k ≠ b → w'.heap[k]? = w.heap[k]?) : HoldsB w' M v l := by
  obtain ⟨a, cap, h1, h2, h3, h4, h5, h6, h7⟩ := h
  refine ⟨a, cap, h1, h2, h3, h4, fun x hx h0 => ⟨(h5 x hx h0).1, (h5 x hx h0).2.1, Nat.lt_of_lt_of_le (h5 x hx h0).2.2 hs⟩, fun x i hx hi => ?_, h7⟩
  have hc := h6 x i hx hi
  have hne : x.block ≠ b := by
    intro e
    rw [e, cell_of_row w b (x.off + i) cs t fr hb] at hc
    exact hn _ _ hc
  exact (World.cell?_of_block (w := w) (a := ⟨x.block, x.off + i, none⟩) (ho _ (h5 x hx (by omega)).2.2 hne)).trans hc
theorem JIs.slices {w : World} {g q : Nat} {J : PjM} (h : JIs w g q J) : ∀ x ∈ J.ps, ∃ a n c, x.v = .slice a n c := fun x hx => by
  obtain ⟨a, n, c, e, _⟩ := (h.t x hx).1.slice
  exact ⟨a, n, c, e⟩
theorem JIs.ne {w : World} {g q : Nat} {J : PjM} (h : JIs w g q J) (h0 : 0 < J.ps.length) : g ≠ q := cells_ne h.b (h.r h0) (by decide)
/-- A part is laid to its place. -/
theorem JIs.putPart {w w' : World} {g q i : Nat} {J : PjM} (h : JIs w g q J) (hi : i < J.ps.length) (x : PtV) (ht : Turn q (.cells (pcells (J.ps.set i x)).toArray 94) w w') (hx : HoldsB w w.heap.size x.v x.l ∧ x.l.length ≤ 4096) :
    JIs w' g q { J with ps := J.ps.set i x } := by
  have hr := h.r (by omega)
  have hno := pcells_no h.slices
  have hone : ∀ y : PtV, HoldsB w w.heap.size y.v y.l → HoldsB w' w'.heap.size y.v y.l := fun y hy => (hy.beside hr hno ht.size fun k hk hne => ht.other k hk hne).mono ht.size
  refine ⟨?_, fun _ => ht.blk, fun y hy => ?_, by simp only [List.length_set]; exact h.n, h.i⟩
  · simp only [List.length_set]
    exact ht.keep h.b (h.ne (by omega))
  · rcases List.mem_or_eq_of_mem_set hy with hy | rfl
    · exact ⟨hone y (h.t y hy).1, (h.t y hy).2⟩
    · exact ⟨hone y hx.1, hx.2⟩
/-- A step of a joiner. -/
structure JStep (g q q' : Nat) (J' : PjM) (w w' : World) : Prop where
  os : w'.os = w.os
  tape : w'.tape = w.tape
  output : w'.output = w.output
  size : w.heap.size ≤ w'.heap.size
  is : JIs w' g q' J'
  other : ∀ k, k < w.heap.size → k ≠ g → k ≠ q → w'.heap[k]? = w.heap[k]?
  at_ : q' = q ∨ w.heap.size ≤ q'
theorem JStep.same {g q : Nat} {J : PjM} {w w' : World} (h : JIs w g q J) (hb : Below w.heap.size w w') : JStep g q q J w w' := ⟨hb.os, hb.tape, hb.output, hb.size, h.keep hb, fun k hk _ _ => hb.block k hk, .inl rfl⟩
theorem JStep.trans {g q q1 q2 : Nat} {J1 J2 : PjM} {w w1 w2 : World} (h : JStep g q q1 J1 w w1) (k : JStep g q1 q2 J2 w1 w2) : JStep g q q2 J2 w w2 := by
  refine ⟨k.os.trans h.os, k.tape.trans h.tape, k.output.trans h.output, Nat.le_trans h.size k.size, k.is, fun i hi h1 h2 => ?_, ?_⟩
  · refine (k.other i (Nat.lt_of_lt_of_le hi h.size) h1 (fun e => ?_)).trans (h.other i hi h1 h2)
    rcases h.at_ with e1 | e1 <;> omega
  · rcases k.at_ with e | e
    · rw [e]; exact h.at_
    · exact .inr (Nat.le_trans h.size e)
theorem JStep.below {g q q' B : Nat} {J' : PjM} {w w' : World} (h : JStep g q q' J' w w') (hg : B ≤ g) (hq : B ≤ q) (hB : B ≤ w.heap.size) : Below B w w' :=
  ⟨h.os, h.tape, h.output, h.size, fun k hk => h.other k (by omega) (by omega) (by omega)⟩
theorem JStep.ended {g q : Nat} {J : PjM} {w w' : World} (h : JIs w g q J) (ht : Turn g (jObj ⟨true, J.id, none, 0, 0⟩) w w') : JStep g q q ⟨true, J.id, []⟩ w w' :=
  ⟨ht.os, ht.tape, ht.output, ht.size, ⟨ht.blk, (fun h0 => absurd h0 (by simp)), (fun x hx => by cases hx), by simp, h.i⟩, fun k hk h1 _ => ht.other k hk h1, .inl rfl⟩
theorem JStep.put {g q i : Nat} {J : PjM} {w w' : World} (h : JIs w g q J) (hi : i < J.ps.length) (x : PtV) (ht : Turn q (.cells (pcells (J.ps.set i x)).toArray 94) w w') (hx : HoldsB w w.heap.size x.v x.l ∧ x.l.length ≤ 4096) : JStep g q q { J with ps := J.ps.set i x } w w' :=
  ⟨ht.os, ht.tape, ht.output, ht.size, h.putPart hi x ht hx, fun k hk _ h2 => ht.other k hk h2, .inl rfl⟩
/-- The two cells of a part are set. -/
theorem turn_part {w : World} {q i : Nat} {ps : List PtV} (hi : i < ps.length) (hb : Blk w q (.cells (pcells ps).toArray 94)) (x : PtV) : Turn q (.cells (pcells (ps.set i x)).toArray 94) w (w.setCells q (i * 2) [.bool x.there, x.v]) := by
  have h := ((Turn.same hb).set (i * 2) (.bool x.there)).set (i * 2 + 1) x.v
  rw [← pcells_set hi]
  have e : (((pcells ps).toArray.setIfInBounds (i * 2) (.bool x.there)).setIfInBounds (i * 2 + 1) x.v) = (((pcells ps).set (i * 2) (.bool x.there)).set (i * 2 + 1) x.v).toArray := by
    rw [List.setIfInBounds_toArray, List.setIfInBounds_toArray]
  rw [e] at h
  exact h
end Go.Proofs.Ytioeaknhcfkfcaa

namespace Go.Proofs.Ytioeaknhcfkfcaa
open Go.RowKit

theorem predOp_val {P : Program} {ops : Array Oper} {o : Oper} {V : World → Value → Prop} {a : Act} {w : World} {v : Value} (hw : Region.wanted o (yielded ops a.tmps) = true) (he : (execOp a.eval o).run P w = .ok (.value v) w) (hv : V w v) : PredOp P ops o V a w := Or.inl ⟨hw, predRun_value he hv⟩
def noPt : PtV := ⟨false, .slice none 0 0, []⟩
def keepE (J : PjM) (i : Nat) (tp : List Int) : Int :=
  if (J.ps.getD i noPt).there = true then (if (J.ps.getD i noPt).l = tp then 0 else 7) else if 16384 < lens J.ps + tp.length then 8 else 0
def keepJ (J : PjM) (i : Nat) (tp : List Int) (v : Value) : PjM :=
  if (J.ps.getD i noPt).there = true then J else if 16384 < lens J.ps + tp.length then ⟨true, J.id, []⟩ else { J with ps := J.ps.set i ⟨true, v, tp⟩ }
def NewV (b : Nat) (v : Value) : Prop := ∀ k, v.ownBlock = some k → b ≤ k
theorem NewV.of {w : World} {base n : Nat} {v : Value} {xs : List Value} (h : w.ownsRow base 5 1 v n xs) : NewV base v := fun k hk => by
  rcases h.2 with ⟨rfl, _⟩ | ⟨g, cap, cur, rfl, hg, _⟩
  · cases hk
  · cases hk
    exact hg
theorem NewV.undef (b : Nat) : NewV b undef := fun k hk => by cases hk
theorem NewV.none (b n c : Nat) : NewV b (.slice none n c) := fun k hk => by cases hk
theorem NewV.mono {b b' : Nat} {v : Value} (h : NewV b v) (hb : b' ≤ b) : NewV b' v := fun k hk => Nat.le_trans hb (h k hk)
def KeepPost (g q i : Nat) (J : PjM) (tp : List Int) (w : World) (r : Ending) (w' : World) : Prop :=
  ∃ v', r = .returned (.int .i64 (keepE J i tp)) ∧ JStep g q q (keepJ J i tp v') w w' ∧ NewV w.heap.size v'
end Go.Proofs.Ytioeaknhcfkfcaa

namespace Go.Proofs.Ytioeaknhcfkfcaa
open Go.RowKit

def nextJ (J : PjM) (p : PV) : PjM := if (!J.began || decide (J.id < p.id)) = true then ⟨true, p.id, List.replicate p.many.toNat noPt⟩ else J
def takeR (J : PjM) (p : PV) (tp : List Int) (v : Value) : Int × Bool × List Int × PjM :=
  if lookE J p = 0 then
    if keepE (nextJ J p) p.at_.toNat tp = 0 then
      if haves (keepJ (nextJ J p) p.at_.toNat tp v).ps < (keepJ (nextJ J p) p.at_.toNat tp v).ps.length then (0, false, [], keepJ (nextJ J p) p.at_.toNat tp v)
      else (0, true, texts (keepJ (nextJ J p) p.at_.toNat tp v).ps, ⟨true, (keepJ (nextJ J p) p.at_.toNat tp v).id, []⟩)
    else (keepE (nextJ J p) p.at_.toNat tp, false, [], keepJ (nextJ J p) p.at_.toNat tp v)
  else (lookE J p, false, [], J)
def TakePost (g q : Nat) (J : PjM) (p : PV) (tp : List Int) (w : World) (r : Ending) (w' : World) : Prop :=
  ∃ q' v' u, r = .returned (.tuple #[u, .bool (takeR J p tp v').2.1, .int .i64 (takeR J p tp v').1]) ∧ JStep g q q' (takeR J p tp v').2.2.2 w w' ∧ HoldsB w' w'.heap.size u (takeR J p tp v').2.2.1 ∧ NewV w.heap.size v' ∧ NewV w.heap.size u
theorem pcells_zero (m : Nat) : pcells (List.replicate m noPt) = (List.replicate m [Value.bool false, .slice none 0 0]).flatten := by
  unfold pcells
  rw [List.map_replicate]
  rfl
theorem made94 (m : Nat) : madeCells #[.bool false, .slice none 0 0] (m * 2) = (pcells (List.replicate m noPt)).toArray := by
  apply Array.ext_getElem?
  intro j
  by_cases hj : j < m * 2
  · have hi : j / 2 < (List.replicate m noPt).length := by rw [List.length_replicate]; omega
    have e : (pcells (List.replicate m noPt)).toArray[j]? = some (if j % 2 = 0 then .bool false else .slice none 0 0) := by
      rw [List.getElem?_toArray]
      have h := pcells_at hi (j := j % 2) (u := if j % 2 = 0 then .bool false else .slice none 0 0) (by
        rw [List.getElem_replicate]
        rcases Nat.mod_two_eq_zero_or_one j with h | h <;> rw [h] <;> rfl)
      rw [show j / 2 * 2 + j % 2 = j by omega] at h
      exact h
    rw [e]
    simp [madeCells, hj]
    rcases Nat.mod_two_eq_zero_or_one j with h | h <;> simp [h]
  · rw [Array.getElem?_eq_none (by simp [madeCells]; omega), Array.getElem?_eq_none (by rw [List.size_toArray, pcells_len, List.length_replicate]; omega)]
end Go.Proofs.Ytioeaknhcfkfcaa

namespace Go.Proofs.Ytioeaknhcfkfcaa
open Go.RowKit

theorem info30s : (Try.prog.info? 103).map (·.size) = some 4 := by kernel_rfl
theorem jno (j : JV) : ∀ (i : Nat) (z : Int), (#[.bool j.began, .int .u32 j.id, .slice j.a j.n j.c] : Array Value)[i]? ≠ some (.int .u8 z) := by
  intro i z
  match i with
  | 0 => simp
  | 1 => simp
  | 2 => simp
  | i + 3 => simp
theorem texts_bytes {ps : List PtV} (h : ∀ x ∈ ps, Bytes x.l) : Bytes (texts ps) := by
  intro z hz
  unfold texts at hz
  obtain ⟨l, hl, hz⟩ := List.mem_flatten.1 hz
  obtain ⟨x, hx, rfl⟩ := List.mem_map.1 hl
  exact h x hx z hz
theorem JStep.fresh {g q b m : Nat} {pid : Int} {J : PjM} {w w9 w10 : World} (h : JIs w g q J) (hb : Below w.heap.size w w9) (hz : Blk w9 b (.cells (pcells (List.replicate m noPt)).toArray 94)) (hlt : w.heap.size ≤ b)
    (ht : Turn g (.cells #[.bool true, .int .u32 pid, .slice (some ⟨b, 0, none⟩) m m] 87) w9 w10) (hm : 0 < m ∧ m ≤ 32) (hid : 0 ≤ pid ∧ pid ≤ 4294967295) : JStep g q b ⟨true, pid, List.replicate m noPt⟩ w w10 := by
  have hg := h.b.lt
  refine ⟨ht.os.trans hb.os, ht.tape.trans hb.tape, ht.output.trans hb.output, Nat.le_trans hb.size ht.size, ⟨?_, fun _ => ht.keep hz (by omega), fun x hx => ?_, by simpa using hm.2, hid⟩, fun k hk h1 _ => (ht.other k (Nat.lt_of_lt_of_le hk hb.size) h1).trans (hb.block k hk), .inr hlt⟩
  · simp only [List.length_replicate]
    rw [pa_some hm.1]
    exact ht.blk
  · rw [List.eq_of_mem_replicate hx]
    exact ⟨HoldsB.nil _ _, by simp [noPt]⟩
end Go.Proofs.Ytioeaknhcfkfcaa

namespace Go.Proofs.Ytioeaknhcfkfcaa
open Go.RowKit

/-- A piece with its text. -/
structure PcV where
  id : Int
  at_ : Int
  many : Int
  v : Value
  l : List Int
def pcc (x : PcV) : List Value := [.int .u32 x.id, .int .i64 x.at_, .int .i64 x.many, x.v]
def rcells (l : List PcV) : List Value := (l.map pcc).flatten
theorem rcells_cons (x : PcV) (r : List PcV) : rcells (x :: r) = .int .u32 x.id :: .int .i64 x.at_ :: .int .i64 x.many :: x.v :: rcells r := rfl
theorem rcells_len (l : List PcV) : (rcells l).length = 4 * l.length := by
  induction l with
  | nil => rfl
  | cons x r ih => rw [rcells_cons]; simp only [List.length_cons]; omega
theorem rcells_at {l : List PcV} {i : Nat} (hi : i < l.length) {j : Nat} {u : Value} (hu : (pcc l[i])[j]? = some u) : (rcells l)[i * 4 + j]? = some u := by
  have hj : j < 4 := by
    have := (List.getElem?_eq_some_iff.1 hu).1
    simpa [pcc] using this
  have e : rcells l = rcells (l.take i) ++ (pcc l[i] ++ rcells (l.drop (i + 1))) := by
    unfold rcells
    conv => lhs; rw [← List.take_append_drop i l, List.map_append, List.flatten_append, List.drop_eq_getElem_cons hi, List.map_cons, List.flatten_cons]
  have hl : (rcells (l.take i)).length = i * 4 := by
    rw [rcells_len, List.length_take, Nat.min_eq_left (Nat.le_of_lt hi)]; omega
  rw [e, List.getElem?_append_right (by omega), hl, Nat.add_sub_cancel_left, List.getElem?_append_left (by have := (List.getElem?_eq_some_iff.1 hu).1; exact this)]
  exact hu
theorem rcells_set {l : List PcV} {i : Nat} (hi : i < l.length) (x : PcV) : ((((rcells l).set (i * 4) (.int .u32 x.id)).set (i * 4 + 1) (.int .i64 x.at_)).set (i * 4 + 2) (.int .i64 x.many)).set (i * 4 + 3) x.v = rcells (l.set i x) := by
  induction l generalizing i with
  | nil => simp at hi
  | cons y r ih =>
    cases i with
    | zero => simp [rcells_cons]
    | succ i =>
      have := ih (i := i) (by simpa using hi)
      rw [rcells_cons, show (i + 1) * 4 = i * 4 + 1 + 1 + 1 + 1 by omega]
      simp only [List.set_cons_succ, show i * 4 + 1 + 1 + 1 + 1 + 1 = i * 4 + 1 + 1 + 1 + 1 + 1 from rfl]
      rw [rcells_cons, ← this]
def noPc : PcV := ⟨0, 0, 0, .slice none 0 0, []⟩
theorem info30z : (Try.prog.info? 103).map (fun i => (i.zero, i.size, i.bytes)) = some (some (.agg #[.int .u32 0, .int .i64 0, .int .i64 0, .slice none 0 0]), 4, 48) := by kernel_rfl
theorem made30 (m : Nat) : madeCells #[.int .u32 0, .int .i64 0, .int .i64 0, .slice none 0 0] (m * 4) = (rcells (List.replicate m noPc)).toArray := by
  apply Array.ext_getElem?
  intro j
  have h4 : j % 4 = 0 ∨ j % 4 = 1 ∨ j % 4 = 2 ∨ j % 4 = 3 := by omega
  by_cases hj : j < m * 4
  · have hi : j / 4 < (List.replicate m noPc).length := by rw [List.length_replicate]; omega
    have e : (rcells (List.replicate m noPc)).toArray[j]? = some (if j % 4 = 0 then .int .u32 0 else if j % 4 = 3 then .slice none 0 0 else .int .i64 0) := by
      rw [List.getElem?_toArray]
      have h := rcells_at hi (j := j % 4) (u := if j % 4 = 0 then .int .u32 0 else if j % 4 = 3 then .slice none 0 0 else .int .i64 0) (by
        rw [List.getElem_replicate]
        rcases h4 with h | h | h | h <;> rw [h] <;> rfl)
      rw [show j / 4 * 4 + j % 4 = j by omega] at h
      exact h
    rw [e]
    simp [madeCells, hj]
    rcases h4 with h | h | h | h <;> simp [h]
  · rw [Array.getElem?_eq_none (by simp [madeCells]; omega), Array.getElem?_eq_none (by rw [List.size_toArray, rcells_len, List.length_replicate]; omega)]
theorem make30 (m : Nat) (hm : m ≤ 32) (w : World) : (Instr.makeSlice 99 (.int .i64 m) (.int .i64 m)).run Try.prog w = .ok (.slice (some ⟨w.heap.size, 0, none⟩) m m) (w.alloc (.cells (rcells (List.replicate m noPc)).toArray 103)) := by
  obtain ⟨i0, hi, hz0, hz1, hz2⟩ := info_parts info30z
  have h := run_make (P := Try.prog) w 99 103 i0 _ Try.underlying99 hi hz0 .i64 .i64 m m (by omega) (Int.le_refl _) (by rw [hz2]; omega) (by omega)
  rw [h, ← made30, hz1]
  simp [Value.cells, Int.toNat_natCast]
/-- A row of pieces in block q. -/
structure PRow (w : World) (q : Nat) (l : List PcV) : Prop where
  r : Blk w q (.cells (rcells l).toArray 103)
  t : ∀ x ∈ l, HoldsB w w.heap.size x.v x.l
theorem PRow.keep {w w' : World} {q : Nat} {l : List PcV} (h : PRow w q l) (hb : Below w.heap.size w w') : PRow w' q l := ⟨h.r.keep hb, fun x hx => (h.t x hx).grow hb⟩
theorem PRow.at {w : World} {q : Nat} {l : List PcV} (h : PRow w q l) {i : Nat} (hi : i < l.length) : w.rangeAt q (i * 4) (pcc l[i]) := fun j u hu => by
  have h7 := rcells_at hi hu
  rw [cell_of_row w q (i * 4 + j) _ 103 (0, 0) h.r]
  rw [List.getElem?_toArray]
  exact h7
theorem rcells_no {l : List PcV} (h : ∀ x ∈ l, ∃ a n c, x.v = .slice a n c) : ∀ (i : Nat) (z : Int), (rcells l).toArray[i]? ≠ some (.int .u8 z) := by
  intro i z
  rw [List.getElem?_toArray]
  intro e
  have hm := List.mem_of_getElem? e
  unfold rcells at hm
  obtain ⟨c, hl, hz⟩ := List.mem_flatten.1 hm
  obtain ⟨x, hx, rfl⟩ := List.mem_map.1 hl
  obtain ⟨a, n, c, hv⟩ := h x hx
  unfold pcc at hz
  rw [hv] at hz
  simp at hz
theorem PRow.put {w w' : World} {q i : Nat} {l : List PcV} (h : PRow w q l) (x : PcV) (ht : Turn q (.cells (rcells (l.set i x)).toArray 103) w w') (hx : HoldsB w w.heap.size x.v x.l) : PRow w' q (l.set i x) := by
  have hno := rcells_no fun x hx => by
    obtain ⟨a, n, c, e, _⟩ := (h.t x hx).slice
    exact ⟨a, n, c, e⟩
  have hone : ∀ y : PcV, HoldsB w w.heap.size y.v y.l → HoldsB w' w'.heap.size y.v y.l := fun y hy => (hy.beside h.r hno ht.size fun k hk hne => ht.other k hk hne).mono ht.size
  refine ⟨ht.blk, fun y hy => ?_⟩
  rcases List.mem_or_eq_of_mem_set hy with hy | rfl
  · exact hone y (h.t y hy)
  · exact hone y hx
theorem turn_piece {w : World} {q i : Nat} {l : List PcV} (hi : i < l.length) (hb : Blk w q (.cells (rcells l).toArray 103)) (x : PcV) : Turn q (.cells (rcells (l.set i x)).toArray 103) w (w.setCells q (i * 4) [.int .u32 x.id, .int .i64 x.at_, .int .i64 x.many, x.v]) := by
  have h := ((((Turn.same hb).set (i * 4) (.int .u32 x.id)).set (i * 4 + 1) (.int .i64 x.at_)).set (i * 4 + 2) (.int .i64 x.many)).set (i * 4 + 3) x.v
  rw [← rcells_set hi]
  rw [List.setIfInBounds_toArray, List.setIfInBounds_toArray, List.setIfInBounds_toArray, List.setIfInBounds_toArray] at h
  exact h
end Go.Proofs.Ytioeaknhcfkfcaa

namespace Go.Proofs.Ytioeaknhcfkfcaa
open Go.RowKit

set_option maxRecDepth 100000 in
/-- v[k:e]. -/
theorem HoldsB.cut {w : World} {M : Nat} {v : Value} {l : List Int} (h : HoldsB w M v l) {k e : Nat} (hk : k ≤ e) (he : e ≤ l.length) :
    ∃ v', (∀ w1, (Instr.sliceAt 39 v (some (.int .i64 k)) (some (.int .i64 e)) none).run Try.prog w1 = .ok v' w1) ∧ HoldsB w M v' ((l.take e).drop k) := by
  obtain ⟨a, n, cap, rfl, hn⟩ := h.slice
  obtain ⟨v1, r1, h1⟩ := h.front he
  have hcap : n ≤ cap := by
    obtain ⟨a', cap', e1, h2, _⟩ := h
    simp only [Value.slice.injEq] at e1
    omega
  have e1 := r1 w
  rw [run_sliceAt_slice (h := Try.underlying39), run_slice_h (ht := Try.underlying39) (h0 := by omega) (h2 := by omega), elem22, size5] at e1
  simp [Result.andThen] at e1
  obtain ⟨a2, n2, cap2, rfl, hn2⟩ := h1.slice
  unfold sliced at e1
  simp only [Nat.sub_zero, Value.slice.injEq] at e1
  obtain ⟨ea, en, ec⟩ := e1
  have ea' : a2 = a := by
    rw [← ea]
    split
    · rfl
    · cases a <;> simp [Addr.add]
  subst ea' ec
  rw [← en] at h1
  obtain ⟨v2, r2, h2⟩ := h1.back (k := k) (by rw [List.length_take]; omega)
  refine ⟨v2, fun w1 => ?_, h2⟩
  rw [← r2 w1]
  rw [run_sliceAt_slice (h := Try.underlying39), run_slice_lh (ht := Try.underlying39) (h0 := by omega) (h1 := by omega) (h2 := by omega), elem22, size5]
  rw [run_sliceAt_slice (h := Try.underlying39), run_slice_l (ht := Try.underlying39) (h0 := by omega) (h1 := by omega), elem22, size5]
  simp [Result.andThen]
def pieceL (bl : List Int) (sz k : Nat) : List Int := (bl.take (min ((k + 1) * sz) bl.length)).drop (k * sz)
def SplitPost (id : Int) (bl : List Int) (sz m : Nat) (w : World) (r : Ending) (w' : World) : Prop :=
  ∃ Q l, r = .returned (.tuple #[.slice (some ⟨Q, 0, none⟩) m m, .int .i64 0]) ∧ w.heap.size ≤ Q ∧ Below w.heap.size w w' ∧ PRow w' Q l ∧ l.length = m ∧ ∀ (k : Nat) (x : PcV), l[k]? = some x → x.id = id ∧ x.at_ = k ∧ x.many = m ∧ x.l = pieceL bl sz k
set_option maxRecDepth 100000 in
set_option maxHeartbeats 4000000 in
theorem split_any (id : Int) (sz m : Nat) (v : Value) (bl : List Int) (w : World) (h : HoldsB w w.heap.size v bl) (hs : 1 ≤ sz ∧ sz ≤ 4096) (hl : bl.length ≤ 16384) (hm : max (((bl.length : Int) + sz - 1) / sz) 1 = (m : Int)) (hm32 : m ≤ 32) (hk : ∀ k, k < m → k * sz ≤ bl.length) :
    Calls Try.prog 41 #[.int .u32 id, v, .int .i64 sz] w (SplitPost id bl sz m w) := by
  have H := Kp.mk h
  obtain ⟨a, n, cap, rfl, hn⟩ := h.slice
  have HN := Kp.mk hn
  have hn16 : n ≤ 16384 := by omega
  rw [← hn] at hm
  have hz1 : ¬ (sz : Int) < 1 := by omega
  have hz2 : ¬ (4096 : Int) < sz := by omega
  have hz3 : ¬ (16384 : Int) < n := by omega
  have hm3 : ¬ (32 : Int) < m := by omega
  have HKK := Kp.mk hk
  clear h hn hl hk
  have hmk := make30 m hm32
  go_enter Try.func41, Try.ntmps41
  go_wp2_with fail
  obtain ⟨Q, hQ⟩ : ∃ Q, Q = w.heap.size := ⟨_, rfl⟩
  have HQ := Kp.mk hQ
  have HR0 : Kp (PRow (w.alloc (.cells (rcells (List.replicate m noPc)).toArray 103)) Q (List.replicate m noPc)) := ⟨⟨Blk.newAt _ hQ, fun x hx => by rw [List.eq_of_mem_replicate hx]; exact HoldsB.nil _ _⟩⟩
  have HB0 : Kp (Below w.heap.size w (w.alloc (.cells (rcells (List.replicate m noPc)).toArray 103))) := ⟨more (Below.refl _ _) _⟩
  rw [← hQ]
  clear hmk hQ
  generalize w.alloc (.cells (rcells (List.replicate m noPc)).toArray 103) = W at *
  go_loopw [37] (fun c wr => ∃ (i : Nat) (l : List PcV), i ≤ m ∧ c = .int .i64 i ∧ Kp (l.length = m) ∧ Kp (PRow wr Q l) ∧ Kp (Below w.heap.size w wr) ∧ Kp (∀ (k : Nat) (x : PcV), k < i → l[k]? = some x → x.id = id ∧ x.at_ = k ∧ x.many = m ∧ x.l = pieceL bl sz k)) (fun c _ => m - (intOf c).toNat)
  case atStart => exact ⟨0, _, by omega, rfl, ⟨List.length_replicate⟩, HR0, HB0, ⟨fun k x hk => absurd hk (by omega)⟩⟩
  case round =>
    obtain ⟨i, l, hi, rfl, HL, HR, HB, HX⟩ := hrel
    by_cases hlt : i < m
    · have hlt' : (i : Int) < (m : Int) := by omega
      obtain ⟨kz, hkz⟩ : ∃ kz : Nat, kz = i * sz := ⟨_, rfl⟩
      obtain ⟨e, he⟩ : ∃ e : Nat, e = min ((i + 1) * sz) bl.length := ⟨_, rfl⟩
      have hke : kz ≤ e := by have := HKK.out i hlt; rw [he, hkz, Nat.add_mul]; omega
      have hen : e ≤ n := by rw [he, HN.out]; exact Nat.min_le_right _ _
      have hm1 : (i : Int) * sz = (kz : Nat) := by rw [hkz]; simp
      have hm2 : ((i : Int) + 1) * sz = (kz : Nat) + (sz : Nat) := by rw [hkz, Int.add_mul]; simp
      have hme : min ((kz : Int) + (sz : Nat)) (n : Int) = (e : Nat) := by rw [he, hkz, HN.out, Nat.add_mul]; omega
      have hkb : kz ≤ 16384 := by omega
      obtain ⟨u, hcut, hu⟩ := H.out.cut hke (by rw [← HN.out]; exact hen)
      have HU := Kp.mk hu
      obtain ⟨ua, un, uc, rfl, -⟩ := hu.slice
      have HPL : Kp (pieceL bl sz i = (bl.take e).drop kz) := ⟨by unfold pieceL; rw [← hkz, ← he]⟩
      have HEL : Kp (((bl.take e).drop kz).length ≤ 16384) := ⟨by rw [List.length_drop, List.length_take]; omega⟩
      clear hu hkz he
      go_wp2_with fail
      refine (clone_any w.heap.size _ _ wr (HU.out.keep HB.out) (by have := HEL.out; omega)).mono ?_
      rintro r w5 ⟨v', rfl, ho, hb⟩
      have HO5 : Kp (HoldsB w5 w5.heap.size v' ((bl.take e).drop kz)) := ⟨HoldsB.ofRow HU.out.bytes ho⟩
      have HB5 : Kp (Below w.heap.size w w5) := ⟨HB.out.trans (hb.mono HB.out.size)⟩
      have HR5 : Kp (PRow w5 Q l) := ⟨HR.out.keep hb⟩
      have HIL : Kp (i < l.length) := ⟨by rw [HL.out]; exact hlt⟩
      have HTH : Kp (w5.there Q (i * 4) 4) := ⟨fun j hj => ⟨(HR5.out.at HIL.out).isSome j hj, HR5.out.r.frozen _⟩⟩
      obtain ⟨a5, m5, c5, rfl⟩ := row_shape ho
      have HTU : Kp (Turn Q (.cells (rcells (l.set i ⟨id, i, m, .slice a5 m5 c5, (bl.take e).drop kz⟩)).toArray 103) w5 (w5.setCells Q (i * 4) [.int .u32 id, .int .i64 (i : Nat), .int .i64 (m : Nat), .slice a5 m5 c5])) := ⟨turn_piece HIL.out HR5.out.r ⟨id, i, m, .slice a5 m5 c5, (bl.take e).drop kz⟩⟩
      have H1C : Kp ((#[.int .u32 id, .int .i64 (i : Nat), .int .i64 (m : Nat), .slice a5 m5 c5] : Array Value).all (·.oneCell') = true) := ⟨all_oneCell_toArray (cs := [.int .u32 id, .int .i64 (i : Nat), .int .i64 (m : Nat), .slice a5 m5 c5]) (by intro v hv; simp at hv; rcases hv with rfl | rfl | rfl | rfl <;> rfl)⟩
      clear ho hb
      go_wp2_with (refine wpList_store_mid rfl 103 (.tmp 60) (.tmp 59) rfl Q (i * 4) #[.int .u32 id, .int .i64 (i : Nat), .int .i64 (m : Nat), .slice a5 m5 c5] rfl rfl HTH.out info30s H1C.out ?_; refine wpl_world (Turn Q (.cells (rcells (l.set i ⟨id, i, m, .slice a5 m5 c5, (bl.take e).drop kz⟩)).toArray 103) w5) HTU.out ?_; intro w6 ht6; have HT6 := Kp.mk ht6; clear ht6)
      refine ⟨⟨i + 1, l.set i ⟨id, i, m, .slice a5 m5 c5, (bl.take e).drop kz⟩, by omega, rfl, ⟨by rw [List.length_set]; exact HL.out⟩, ⟨HR5.out.put _ HT6.out HO5.out⟩, ⟨HB5.out.trans (HT6.out.below (by have := HQ.out; omega) HB5.out.size)⟩, ⟨fun k x hk hx => ?_⟩⟩, ?_⟩
      · rw [List.getElem?_set] at hx
        split at hx
        · rename_i hik
          rw [if_pos HIL.out] at hx
          simp only [Option.some.injEq] at hx
          subst hx hik
          exact ⟨rfl, rfl, rfl, HPL.out.symm⟩
        · exact HX.out k x (by omega) hx
      · simp only [intOf]
        omega
    · have hee : i = m := by omega
      have hle : (m : Int) ≤ (i : Int) := by omega
      go_wp2_with fail
      exact bodyPost_ret (results_tmp2 rfl _ _ _) rfl ⟨Q, l, rfl, by rw [HQ.out]; exact Nat.le_refl _, HB.out, HR.out, HL.out, fun k x hx => HX.out k x (by have := (List.getElem?_eq_some_iff.1 hx).1; rw [HL.out] at this; omega) hx⟩
end Go.Proofs.Ytioeaknhcfkfcaa

namespace Go.Proofs.Ytioeaknhcfkfcaa
open Go.RowKit

theorem HoldsB.jstep {w w' : World} {g q q' M : Nat} {J J' : PjM} {v : Value} {l : List Int} (h : HoldsB w M v l) (hj : JIs w g q J) (hq : q = g ∨ 0 < J.ps.length) (hs : JStep g q q' J' w w') : HoldsB w' M v l := by
  obtain ⟨a, cap, h1, h2, h3, h4, h5, h6, h7⟩ := h
  refine ⟨a, cap, h1, h2, h3, h4, fun x hx h0 => ⟨(h5 x hx h0).1, (h5 x hx h0).2.1, Nat.lt_of_lt_of_le (h5 x hx h0).2.2 hs.size⟩, fun x i hx hi => ?_, h7⟩
  have hc := h6 x i hx hi
  have hg : x.block ≠ g := by
    intro e
    rw [e, cell_of_row w g (x.off + i) _ 87 (0, 0) hj.b] at hc
    exact jno ⟨J.began, J.id, pa q J.ps.length, J.ps.length, J.ps.length⟩ _ _ hc
  have hqq : x.block ≠ q := by
    rcases hq with rfl | hq
    · exact hg
    · intro e
      rw [e, cell_of_row w q (x.off + i) _ 94 (0, 0) (hj.r hq)] at hc
      exact pcells_no hj.slices _ _ hc
  exact (World.cell?_of_block (w := w) (a := ⟨x.block, x.off + i, none⟩) (hs.other _ (h5 x hx (by omega)).2.2 hg hqq)).trans hc
theorem PRow.jstep {w w' : World} {g q q' Q : Nat} {J J' : PjM} {l : List PcV} (h : PRow w Q l) (hj : JIs w g q J) (hq : q = g ∨ 0 < J.ps.length) (hs : JStep g q q' J' w w') : PRow w' Q l := by
  have hg : Q ≠ g := cells_ne h.r hj.b (by decide)
  have hqq : Q ≠ q := by
    rcases hq with rfl | hq
    · exact hg
    · exact cells_ne h.r (hj.r hq) (by decide)
  exact ⟨(hs.other Q h.r.lt hg hqq).trans h.r, fun x hx => ((h.t x hx).jstep hj hq hs).mono hs.size⟩
theorem JIs.new {w : World} {g : Nat} (h : Blk w g (jObj ⟨false, 0, none, 0, 0⟩)) : JIs w g g ⟨false, 0, []⟩ :=
  ⟨h, (fun h0 => absurd h0 (by simp)), (fun x hx => by cases hx), by simp, by simp⟩
/-- The piece k of a row, as Take wants it. -/
theorem PRow.piece {w : World} {Q : Nat} {l : List PcV} {id : Int} {m : Nat} {bl : List Int} {sz : Nat} (h : PRow w Q l) (hx : ∀ (k : Nat) (x : PcV), l[k]? = some x → x.id = id ∧ x.at_ = k ∧ x.many = m ∧ x.l = pieceL bl sz k) {k : Nat} (hk : k < l.length) :
    ∃ a c, w.rangeAt Q (k * 4) [.int .u32 id, .int .i64 k, .int .i64 m, .slice a (pieceL bl sz k).length c] ∧ HoldsB w w.heap.size (.slice a (pieceL bl sz k).length c) (pieceL bl sz k) := by
  obtain ⟨e1, e2, e3, e4⟩ := hx k l[k] (List.getElem?_eq_getElem hk)
  have ht := h.t _ (List.getElem_mem hk)
  obtain ⟨a, n, c, e5, e6⟩ := ht.slice
  have hr := h.at hk
  unfold pcc at hr
  rw [e1, e2, e3, e5, e6, e4] at hr
  rw [e5, e6, e4] at ht
  exact ⟨a, c, hr, ht⟩
theorem calls_world {P : Program} {f : FuncId} {args : Array Value} {w : World} {R : Ending → World → Prop} (F : World → Prop) (hF : F w) (h : ∀ w2, F w2 → Calls P f args w2 R) : Calls P f args w R := h w hF
def bA : List Int := [97, 98, 99, 100, 101]
theorem bA_0 : pieceL bA 2 0 = [97, 98] := by decide
theorem bA_1 : pieceL bA 2 1 = [99, 100] := by decide
theorem bA_2 : pieceL bA 2 2 = [101] := by decide
theorem bA_b : Bytes bA := by unfold Bytes bA; decide
def j1 (v : Value) : PjM := ⟨true, 1, [noPt, noPt, ⟨true, v, [101]⟩]⟩
def j2 (v u : Value) : PjM := ⟨true, 1, [⟨true, u, [97, 98]⟩, noPt, ⟨true, v, [101]⟩]⟩
theorem take1 (a : Option Addr) (c : Nat) (v : Value) : takeR ⟨false, 0, []⟩ ⟨1, 2, 3, a, 1, c⟩ [101] v = (0, false, [], j1 v) := by rfl
theorem take2 (a : Option Addr) (c : Nat) (v u : Value) : takeR (j1 v) ⟨1, 0, 3, a, 2, c⟩ [97, 98] u = (0, false, [], j2 v u) := by rfl
theorem take3 (a : Option Addr) (c : Nat) (v u z : Value) : takeR (j2 v u) ⟨1, 0, 3, a, 2, c⟩ [97, 98] z = (0, false, [], j2 v u) := by rfl
theorem take4 (a : Option Addr) (c : Nat) (v u z : Value) : takeR (j2 v u) ⟨1, 1, 3, a, 2, c⟩ [99, 100] z = (0, true, bA, ⟨true, 1, []⟩) := by rfl
theorem textA : ((strOfNums bA).toList == [97, 98, 99, 100, 101]) = true := by kernel_rfl
end Go.Proofs.Ytioeaknhcfkfcaa

namespace Go.Proofs.Ytioeaknhcfkfcaa
open Go.RowKit

set_option maxRecDepth 100000 in
theorem app_run2 (w : World) (g B : Nat) (hg : Blk w g (.cells #[] 5)) (hB : B ≤ g) (hBw : B ≤ w.heap.size) (M : Nat) (pa : Option Addr) (pn pc : Nat) (p : List Int) (hp : HoldsB w M (.slice pa pn pc) p) (hlen : p.length ≤ 140737488351232) :
    ∃ v' w', (Builtin.append_ #[39, 39] 39 #[.slice (some ⟨g, 0, none⟩) 0 0, .slice pa pn pc]).run Try.prog w = .ok v' w' ∧ Below w.heap.size w w' ∧ ∃ a' c', v' = .slice a' pn c' ∧ w'.ownsRow B 5 1 v' p.length (bv p) := by
  obtain ⟨i0, hi, hz0, hz1, hz2⟩ := info_parts info5
  obtain ⟨ad, m, cap, e0, hm⟩ := hp.slice
  simp only [Value.slice.injEq] at e0
  obtain ⟨rfl, rfl, rfl⟩ := e0
  by_cases h0 : p = []
  · subst h0
    have hm0 : pn = 0 := by simpa using hm
    subst hm0
    have ho : w.ownsRow B 5 1 (.slice (some ⟨g, 0, none⟩) 0 0) 0 [] := ⟨rfl, .inr ⟨g, 0, #[], rfl, hB, hg, Nat.le_refl _, by unfold maxLen; omega, rfl, rfl⟩⟩
    refine ⟨.slice (some ⟨g, 0, none⟩) 0 0, w, ?_, Below.refl _ _, _, _, rfl, ho⟩
    cases pa with
    | none =>
      obtain ⟨_, _, e, _, _, hc, _⟩ := hp
      simp only [Value.slice.injEq] at e
      have := hc e.1.symm
      rw [e.2.2, this]
      exact run_append_owned_none (w := w) g 39 39 5 i0 1 Try.underlying39 hi _ 0 [] ⟨rfl, .inr ⟨g, 0, #[], rfl, Nat.le_refl _, hg, Nat.le_refl _, by unfold maxLen; omega, rfl, rfl⟩⟩
    | some ad =>
      have hf := run_firstCells_some (P := Try.prog) w i0.size 0 ad 0 pc [] (by simp) (by simp)
      simp [Builtin.append_, run_underlying Try.underlying39, sizeOf, typeInfo, hi, Builtin.lenOf, hf, storeCells]
  · have hpos : 0 < p.length := by cases p with | nil => exact absurd rfl h0 | cons => simp
    subst hm
    cases pa with
    | none =>
      obtain ⟨_, _, e, hle, _, hc, _⟩ := hp
      simp only [Value.slice.injEq] at e
      have := hc e.1.symm
      omega
    | some ad =>
      obtain ⟨v', w', hrun, r1, r2⟩ := run_append_arg_grows (P := Try.prog) w 39 39 5 i0 (.int .u8 0) 1 1 Try.underlying39 hi hz0 hz1 hz2 rfl (by decide) ⟨g, 0, none⟩ 0 0 [] rfl (fun j u h => by simp at h) ad p.length pc (bv p) (by rw [bv_len]) hp.news (by omega) (by unfold maxLen; omega) (by omega)
      rw [Nat.zero_add, List.nil_append] at r1
      have r3 := ownsRow_base r1 hBw
      obtain ⟨hx, hy⟩ := r3
      rcases hy with ⟨e, h0'⟩ | ⟨g', cap', cur', e, hr⟩
      · omega
      · exact ⟨v', w', hrun, ⟨r2.os, r2.tape, r2.output, r2.size, fun k hk => r2.block k hk (by simp)⟩, _, _, e, hx, .inr ⟨g', cap', cur', e, hr⟩⟩
theorem exec_append {o : Oper} {a : Act} {w w' : World} {s x : Operand} {u v v' : Value} (ho : o.op = .call { callee := .builtin .append, args := #[s, x], argTypes := #[39, 39] })
    (hs : a.eval s = v) (hx : a.eval x = u) (hr : (Builtin.append_ #[39, 39] o.type #[v, u]).run Try.prog w = .ok v' w') : (execOp a.eval o).run Try.prog w = .ok (.value v') w' := by
  unfold execOp
  simp only [ho, resolve, invoke, builtin, Sem.run_bind, Sem.run_pure, Result.andThen_ok, List.map_toArray, List.map_cons, List.map_nil, hs, hx, hr]
theorem results_row {P : Program} {fn : Func} {p : Tmp} {ty : TypeId} (h : fn.results = #[.cell p ty]) (tmps : Array Value) (w : World) (g : Nat) (t : TypeId) (cs : Array Value) (fr : Nat × Nat) (d : TypeDesc)
    (hp : tmps.getD p undef = .pointer (some ⟨g, 0, none⟩)) (hg : w.heap[g]? = some (.cells cs t fr))
    (hu : P.underlying ty = some d) (hd : (match d with | .struct _ | .array _ _ => true | _ => false) = true) (hi : (P.info? ty).map (·.size) = some cs.size) :
    (results fn tmps).run P w = .ok (.agg cs) w := by
  have hp' : tmps[p]?.getD undef = .pointer (some ⟨g, 0, none⟩) := by simpa using hp
  simp [results, h, hp', asAddr, run_loadVar_row w g t ty cs fr d hg hu hd hi]
abbrev RZ : Obj := .cells #[.int .u32 0, .int .i64 0, .int .i64 0, .slice none 0 0] 103
def ToPost (p : PV) (tp : List Int) (w : World) (r : Ending) (w' : World) : Prop :=
  ∃ a c, r = .returned (.agg #[.int .u32 p.id, .int .i64 p.at_, .int .i64 p.many, .slice a p.n c]) ∧ w'.ownsRow w.heap.size 5 1 (.slice a p.n c) tp.length (bv tp) ∧ Below w.heap.size w w'
theorem To_holds {w w' : World} {M : Nat} {v : Value} {l : List Int} (hb : Bytes l) (h : w'.ownsRow M 5 1 v l.length (bv l)) : HoldsB w' w'.heap.size v l := HoldsB.ofRow hb h
end Go.Proofs.Ytioeaknhcfkfcaa

namespace Go.Proofs.Ytioeaknhcfkfcaa
open Go.ChangeShapes Go.WideShapes Go.ChangeAt Go.RowKit Go.Deep Go.Joins

theorem row_bytes2 {H : Type} {enc : TypeId × Value → H} {W : World} {n : Nat} {v : Value} {y : DataW H × List MemPlace}
    (h : DataW.trod enc Try.prog W 0 (fun _ => true) true n 39 [v] = some y) : ∃ a len cap l, v = .slice a len cap ∧ HoldsB W W.heap.size (.slice a len cap) l ∧
      (∀ {ts : List TypeId} {ds : List (DataW H)} {j : Nat}, (DataW.weightsEach Try.prog ts ds).all (· ≤ reachBytes) = true → ts[j]? = some 39 → ds[j]? = some y.1 → l.length ≤ 140737488351232) := by
  have hb5 : Try.prog.bytesOf 5 = 1 := by kernel_rfl
  obtain ⟨d, pl⟩ := y
  have hsh : ∃ a n c, v = .slice a n c := by
    rcases DataW.trod_slice Try.underlying39 h with ⟨h1, _⟩ | ⟨a, len, cap, _, _, _, _, h1, _⟩
    · simp at h1; exact ⟨_, _, _, h1⟩
    · simp at h1; exact ⟨_, _, _, h1⟩
  obtain ⟨a, len, cap, rfl⟩ := hsh
  have k : DataW.Trod enc Try.prog W 0 (fun _ => true) true 39 (.slice a len cap) d pl := ⟨n, h⟩
  obtain ⟨l, hl⟩ := row_bytes k
  refine ⟨a, len, cap, l, rfl, hl, fun {ts ds j} hs ht hd => ?_⟩
  have hll : len = l.length := by
    obtain ⟨a1, n1, c1, e1, e2⟩ := hl.slice
    simp only [Value.slice.injEq] at e1
    omega
  obtain ⟨fuel, hf⟩ := k
  rcases open_slice1 Try.underlying39 (by kernel_rfl) hf with ⟨hcs, _⟩ | ⟨x, l', c, m, n', V, D, Pl, hcs, hb, hl', hm, hmm, hx, hi⟩
  · simp [Value.cells] at hcs
    omega
  · simp [Value.cells] at hcs
    obtain ⟨rfl, rfl, rfl⟩ := hcs
    simp only [Prod.mk.injEq] at hx
    rw [hx.1] at hd
    have := sized_slice hs ht hd Try.underlying39
    rw [hb5] at this
    simp only [List.length_map, List.length_range, reachBytes] at this
    omega
def I64 (n : Int) : Prop := -9223372036854775808 ≤ n ∧ n ≤ 9223372036854775807
theorem i64_of {n : Int} (h : (Lit.int .i64 n).wf = true) : I64 n := by
  have h1 : IntKind.i64.min = -9223372036854775808 := rfl
  have h2 : IntKind.i64.max = 9223372036854775807 := rfl
  simp [Lit.wf, h1, h2] at h
  exact h
theorem u32_of {n : Int} (h : (Lit.int .u32 n).wf = true) : 0 ≤ n ∧ n ≤ 4294967295 := by
  have h1 : IntKind.u32.min = 0 := rfl
  have h2 : IntKind.u32.max = 4294967295 := rfl
  simp [Lit.wf, h1, h2] at h
  exact h
theorem weights_part {H : Type} {d : DataW H} {t : TypeId} {fs : Array Field} {parts : List (DataW H)} (hu : Try.prog.underlying t = some (.struct fs)) (hd : d = .agg parts) {ts : List TypeId} {ds : List (DataW H)} {j : Nat} (hs : (DataW.weightsEach Try.prog ts ds).all (· ≤ reachBytes) = true) (ht : ts[j]? = some t) (hj : ds[j]? = some d) :
    (DataW.weightsEach Try.prog (fs.toList.map (·.type)) parts).all (· ≤ reachBytes) = true := by
  refine List.all_eq_true.2 fun n hn => List.all_eq_true.1 hs _ (DataW.weights_mem_each ht hj n ?_)
  rw [hd]
  simp only [DataW.weights, hu]
  exact hn
set_option maxRecDepth 100000 in
theorem piece_open {H : Type} {enc : TypeId × Value → H} {W : World} {b0 : Nat} {v : Value} {d : DataW H} {p : List MemPlace} (hv : Value.okWide Try.prog W .any b0 109 v)
    (k : DataW.Trod enc Try.prog W 0 (fun _ => true) true 109 v d p) : ∃ (x : PV) (l : List Int), v = x.v ∧ HoldsB W W.heap.size (.slice x.a x.n x.c) l ∧ (0 ≤ x.id ∧ x.id ≤ 4294967295) ∧ (I64 x.at_ ∧ I64 x.many) ∧
      (∀ {ts : List TypeId} {ds : List (DataW H)} {j : Nat}, (DataW.weightsEach Try.prog ts ds).all (· ≤ reachBytes) = true → ts[j]? = some 109 → ds[j]? = some d → l.length ≤ 140737488351232) := by
  obtain ⟨v0, v1, v2, v3, y0, y1, y2, y3, n, rfl, hd, -, h0, h1, h2, h3⟩ := open_agg4 Try.underlying109 (by kernel_rfl) (by kernel_rfl) hv k
  obtain ⟨id, e0, -, w0⟩ := DataW.trod_int Try.underlying24 h0
  obtain ⟨a_, e1, -, w1⟩ := DataW.trod_int Try.underlying3 h1
  obtain ⟨m, e2, -, w2⟩ := DataW.trod_int Try.underlying3 h2
  simp only [List.cons.injEq, and_true] at e0 e1 e2
  subst e0 e1 e2
  obtain ⟨a, len, cap, l, rfl, hl, hr⟩ := row_bytes2 h3
  refine ⟨⟨id, a_, m, a, len, cap⟩, l, rfl, hl, u32_of w0, ⟨i64_of w1, i64_of w2⟩, fun {ts ds j} hs ht hj => ?_⟩
  exact hr (j := 3) (weights_part Try.underlying109 hd hs ht hj) rfl rfl
end Go.Proofs.Ytioeaknhcfkfcaa

namespace Go.Proofs.Ytioeaknhcfkfcaa
open Go.RowKit

theorem ownsRow_same {w w' : World} {B e sz n : Nat} {v : Value} {xs : List Value} (h : w.ownsRow B e sz v n xs) (hs : ∀ k, v.ownBlock = some k → w'.heap[k]? = w.heap[k]?) : w'.ownsRow B e sz v n xs := by
  obtain ⟨h1, h2⟩ := h
  refine ⟨h1, ?_⟩
  rcases h2 with ⟨rfl, hn⟩ | ⟨g, cap, cur, rfl, a1, a2, a3, a4, a5, a6⟩
  · exact .inl ⟨rfl, hn⟩
  · exact .inr ⟨g, cap, cur, rfl, a1, (hs g rfl).trans a2, a3, a4, a5, a6⟩
theorem ownsRow_type {w : World} {B e sz n : Nat} {v : Value} {xs : List Value} (h : w.ownsRow B e sz v n xs) {k : Nat} (hk : v.ownBlock = some k) : ∃ cur, w.heap[k]? = some (.cells cur e (0, 0)) := by
  rcases h.2 with ⟨rfl, _⟩ | ⟨g, cap, cur, rfl, a1, a2, a3, a4, a5, a6⟩
  · cases hk
  · cases hk
    exact ⟨cur, a2⟩
/-- Two own rows of unlike types: what grows one leaves the other. -/
theorem own_grown {w w' : World} {B1 B2 e1 e2 s1 s2 n1 n2 : Nat} {v1 v2 : Value} {x1 x2 : List Value} (h1 : w.ownsRow B1 e1 s1 v1 n1 x1) (h2 : w.ownsRow B2 e2 s2 v2 n2 x2) (hne : e1 ≠ e2) (hg : w.grownBy w' v2.ownBlock) : w'.ownsRow B1 e1 s1 v1 n1 x1 := by
  refine ownsRow_same h1 fun k hk => ?_
  obtain ⟨cur, hc⟩ := ownsRow_type h1 hk
  refine hg.block k (Array.getElem?_eq_some_iff.1 hc).1 fun e => ?_
  obtain ⟨cur2, hc2⟩ := ownsRow_type h2 e.symm
  rw [hc] at hc2
  simp only [Option.some.injEq, Obj.cells.injEq] at hc2
  exact hne hc2.2.1
structure DRow (w : World) (B : Nat) (v : Value) (l : List PcV) : Prop where
  r : w.ownsRow B 109 4 v l.length (rcells l)
  t : ∀ x ∈ l, w.ownsRow B 5 1 x.v x.l.length (bv x.l) ∧ Bytes x.l
theorem DRow.keep {w w' : World} {B : Nat} {v : Value} {l : List PcV} (h : DRow w B v l) (hb : Below w.heap.size w w') : DRow w' B v l := ⟨ownsRow_below h.r hb, fun x hx => ⟨ownsRow_below (h.t x hx).1 hb, (h.t x hx).2⟩⟩
theorem DRow.nil (w : World) (B : Nat) : DRow w B (.slice none 0 0) [] := ⟨World.ownsRow_nil _ _ _ _, fun x hx => by cases hx⟩
theorem DRow.push {w w' : World} {B : Nat} {v v' : Value} {l : List PcV} {x : PcV} (h : DRow w B v l) (hr : w'.ownsRow B 109 4 v' (l.length + 1) (rcells l ++ pcc x)) (hg : w.grownBy w' v.ownBlock) (hx : w.ownsRow B 5 1 x.v x.l.length (bv x.l) ∧ Bytes x.l) : DRow w' B v' (l ++ [x]) := by
  refine ⟨?_, fun y hy => ?_⟩
  · rw [List.length_append]
    have e : rcells (l ++ [x]) = rcells l ++ pcc x := by simp [rcells]
    rw [e]
    exact hr
  · rcases List.mem_append.1 hy with hy | hy
    · exact ⟨own_grown (h.t y hy).1 h.r (by decide) hg, (h.t y hy).2⟩
    · rw [List.mem_singleton.1 hy]
      exact ⟨own_grown hx.1 h.r (by decide) hg, hx.2⟩
theorem DRow.at {w : World} {B : Nat} {v : Value} {l : List PcV} (h : DRow w B v l) {i : Nat} (hi : i < l.length) : ∃ lb cap, v = .slice (some ⟨lb, 0, none⟩) l.length cap ∧ B ≤ lb ∧ lb < w.heap.size ∧ w.rangeAt lb (i * 4) (pcc l[i]) := by
  rcases h.r.2 with ⟨_, hn⟩ | ⟨g, cap, cur, rfl, a1, a2, a3, a4, a5, a6⟩
  · omega
  · refine ⟨g, cap, rfl, a1, (Array.getElem?_eq_some_iff.1 a2).1, fun j u hu => ?_⟩
    have h7 := rcells_at hi hu
    rw [cell_of_row w g (i * 4 + j) _ 109 (0, 0) a2]
    rw [← a6, List.getElem?_take] at h7
    split at h7
    · simpa using h7
    · cases h7
theorem DRow.text {w : World} {B : Nat} {v : Value} {l : List PcV} (h : DRow w B v l) {x : PcV} (hx : x ∈ l) : HoldsB w w.heap.size x.v x.l := HoldsB.ofRow (h.t x hx).2 (h.t x hx).1
theorem info25s : (Try.prog.info? 109).map (·.size) = some 4 := by kernel_rfl
def sameB (x y : PcV) : Bool := decide (x.id = y.id) && decide (x.at_ = y.at_) && decide (x.many = y.many) && decide (x.l = y.l)
end Go.Proofs.Ytioeaknhcfkfcaa
