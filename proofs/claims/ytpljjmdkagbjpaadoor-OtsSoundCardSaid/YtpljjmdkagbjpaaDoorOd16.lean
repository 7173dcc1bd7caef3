/-
  The document's Clash.
-/
import Derived.Test.YtpljjmdkagbjpaaDoorOd15
import Derived.Deep.WholeRow
import Derived.Deep.MidRow
import Derived.Stop.BytesEq
namespace Go.Proofs.YtpljjmdkagbjpaaDoor
open Go.RowKit

/-- Rows of sixteen, one behind the other. -/
def rowsL (f : Nat → List Int) : Nat → List Int
  | 0 => []
  | n + 1 => rowsL f n ++ f n
theorem rowsL_len {f : Nat → List Int} (h : ∀ i, (f i).length = 16) : ∀ n, (rowsL f n).length = n * 16
  | 0 => rfl
  | n + 1 => by rw [rowsL, List.length_append, rowsL_len h n, h]; omega
theorem rowsL_mid {f : Nat → List Int} (h : ∀ i, (f i).length = 16) : ∀ (n i : Nat), i < n → ((rowsL f n).drop (i * 16)).take 16 = f i
  | 0, _, hi => absurd hi (by omega)
  | n + 1, i, hi => by
    rw [rowsL]
    by_cases hn : i = n
    · subst hn
      rw [List.drop_append, List.drop_eq_nil_of_le (by rw [rowsL_len h]; omega), List.nil_append, rowsL_len h, Nat.sub_self, List.drop_zero, List.take_of_length_le (by rw [h]; omega)]
    · rw [List.drop_append_of_le_length (by rw [rowsL_len h]; omega), List.take_append_of_le_length (by rw [List.length_drop, rowsL_len h]; omega)]
      exact rowsL_mid h n i (by omega)
/-- The j-th sum of a row of sums. -/
def segL (p : List Int) (j : Nat) : List Int := (p.drop (j * 16)).take 16
theorem rowsL_bytes {f : Nat → List Int} (h : ∀ i, Bytes (f i)) : ∀ n, Bytes (rowsL f n)
  | 0 => Bytes.nil
  | n + 1 => (rowsL_bytes h n).append (h n)
/-- The slice v holds n short sums, whose bytes are l. -/
def HoldsS (w : World) (v : Value) (n : Nat) (l : List Int) : Prop :=
  ∃ a cap, v = .slice a n cap ∧ l.length = n * 16 ∧ n ≤ maxLen ∧ Bytes l ∧ (0 < n → ∃ b off, a = some ⟨b, off, none⟩ ∧ b < w.heap.size ∧ ∀ j, j < n * 16 → w.cell? ⟨b, off + j, none⟩ = some (.int .u8 (l.getD j 0)))
theorem HoldsS.keep {w w' : World} {v : Value} {n : Nat} {l : List Int} (h : HoldsS w v n l) (hb : Below w.heap.size w w') : HoldsS w' v n l := by
  obtain ⟨a, cap, h1, h2, h3, h4, h5⟩ := h
  refine ⟨a, cap, h1, h2, h3, h4, fun h0 => ?_⟩
  obtain ⟨b, off, ha, hlt, hc⟩ := h5 h0
  exact ⟨b, off, ha, Nat.lt_of_lt_of_le hlt hb.size, fun j hj => (hb.cell (p := ⟨b, off + j, none⟩) hlt).trans (hc j hj)⟩
theorem HoldsS.ofRow {w : World} {base n : Nat} {t : TypeId} {v : Value} {l : List Int} (h7 : Bytes l) (hn : n ≤ maxLen) (hl : l.length = n * 16) (h : w.ownsRow base t 16 v n (bv l)) : HoldsS w v n l := by
  rcases h.2 with ⟨rfl, h0⟩ | ⟨g, cap, cur, rfl, hb, hg, h1, h2, h3, h4⟩
  · subst h0
    exact ⟨none, 0, rfl, hl, hn, h7, fun h => by omega⟩
  · refine ⟨_, cap, rfl, hl, hn, h7, fun _ => ⟨g, 0, rfl, (Array.getElem?_eq_some_iff.1 hg).1, fun j hj => ?_⟩⟩
    rw [cell_of_row w g (0 + j) cur t (0, 0) hg]
    have h5 : (bv l)[j]? = some (.int .u8 (l.getD j 0)) := by
      rw [List.getElem?_map, List.getD_eq_getElem?_getD, List.getElem?_eq_getElem (by omega)]
      simp
    rw [← h4, List.getElem?_take, if_pos hj] at h5
    simpa using h5
theorem HoldsS.range {w : World} {a : Option Addr} {n m cap : Nat} {l : List Int} (h : HoldsS w (.slice a m cap) n l) {i : Nat} (hi : i < n) : ∃ b off, a = some ⟨b, off, none⟩ ∧ b < w.heap.size ∧ w.rangeAt b (off + i * 16) (bv (segL l i)) := by
  obtain ⟨a', cap', h1, h2, h3, h4, h5⟩ := h
  simp only [Value.slice.injEq] at h1
  obtain ⟨rfl, rfl, rfl⟩ := h1
  obtain ⟨b, off, rfl, hlt, hc⟩ := h5 (by omega)
  refine ⟨b, off, rfl, hlt, fun j v hv => ?_⟩
  unfold segL bv at hv
  have hj : j < 16 := by
    have := (List.getElem?_eq_some_iff.1 hv).1
    rw [List.length_map, List.length_take] at this
    omega
  have := hc (i * 16 + j) (by omega)
  rw [Nat.add_assoc, this, ← hv, List.getElem?_map, List.getElem?_take, if_pos hj, List.getElem?_drop, List.getD_eq_getElem?_getD, List.getElem?_eq_getElem (by omega)]
  rfl
theorem wpList_buildSlice_one {P : Program} {w : World} {ops : Array Oper} {rest : List Oper} {o : Oper} {a : Act} {Q : Exit → Act → World → Prop} (hg : o.guard = none) (t : TypeId) (len : Nat) (x : Operand) (ho : o.op = .buildSlice t len #[(0, x)])
    (u : Value) (hx : a.eval x = u) (v : Value) (w' : World) (hrun : (Instr.buildSlice t len #[(0, u)]).run P w = .ok v w') (h : wpList P ops Q rest (a.put o.dst v) w') : wpList P ops Q (o :: rest) a w := by
  subst hx
  refine wpList_plain hg fun _ hK => ?_
  unfold Oper.wp execOp
  simp only [ho, Sem.run_bind, List.map_toArray, List.map_cons, List.map_nil, hrun, Result.andThen_ok]
  exact hK _ _ h
theorem list16 {p : List Int} (h : p.length = 16) : ∃ x0 x1 x2 x3 x4 x5 x6 x7 x8 x9 x10 x11 x12 x13 x14 x15, p = [x0, x1, x2, x3, x4, x5, x6, x7, x8, x9, x10, x11, x12, x13, x14, x15] := by
  match p, h with
  | [x0, x1, x2, x3, x4, x5, x6, x7, x8, x9, x10, x11, x12, x13, x14, x15], _ => exact ⟨x0, x1, x2, x3, x4, x5, x6, x7, x8, x9, x10, x11, x12, x13, x14, x15, rfl⟩
set_option maxRecDepth 100000 in
theorem build65 {p : List Int} (h : p.length = 16) (w : World) : (Instr.buildSlice 101 1 #[(0, dgV p)]).run Tryd.prog w = .ok (.slice (some ⟨w.heap.size, 0, none⟩) 1 1) (w.alloc (.cells (bv p).toArray 25)) := by
  obtain ⟨x0, x1, x2, x3, x4, x5, x6, x7, x8, x9, x10, x11, x12, x13, x14, x15, rfl⟩ := list16 h
  kernel_rfl
theorem row_new (w : World) (l : List Int) (t : TypeId) : ∀ j u, (bv l)[j]? = some u → (w.alloc (.cells (bv l).toArray t)).cell? ((⟨w.heap.size, 0, none⟩ : Addr).add j) = some u := by
  intro j u hu
  have e : (⟨w.heap.size, 0, none⟩ : Addr).add j = ⟨w.heap.size, j, none⟩ := by unfold Addr.add; split <;> simp_all
  rw [e, (Blk.new w (.cells (bv l).toArray t)).cell j, List.getElem?_toArray]
  exact hu
theorem info32s : (Tryd.prog.info? 25).map (fun i => (i.zero, i.size, i.bytes)) = some (some (.agg #[.int .u8 0, .int .u8 0, .int .u8 0, .int .u8 0, .int .u8 0, .int .u8 0, .int .u8 0, .int .u8 0, .int .u8 0, .int .u8 0, .int .u8 0, .int .u8 0, .int .u8 0, .int .u8 0, .int .u8 0, .int .u8 0]), 16, 16) := by kernel_rfl
theorem info32L : (Tryd.prog.info? 25).map (·.size) = some 16 := by kernel_rfl
theorem cellsL32 {l : List Int} (h : l.length = 16) : (Tryd.prog.info? 25).map (·.size) = some (bv l).length := by rw [List.length_map, h]; exact info32L
theorem exec_load_midS {P : Program} {o : Oper} {a : Act} {w : World} {ty : TypeId} {x : Operand} {b off : Nat} {cs : List Value} {d : TypeDesc} (ho : o.op = .load ty x) (hx : a.eval x = .pointer (some ⟨b, off, none⟩)) (hc : w.rangeAt b off cs)
    (hu : P.underlying ty = some d) (hd : d.isRow = true) (hi : (P.info? ty).map (·.size) = some cs.length) : (execOp a.eval o).run P w = .ok (.value (.agg cs.toArray)) w := by
  unfold execOp
  simp only [ho, hx, Instr.loadAt, Instr.sureAddr, Sem.run_bind, Sem.run_pure, Result.andThen_ok, run_loadVar_mid w b off ty cs d hc hu hd hi]
theorem bytes_inj {p q : List Int} (hp : Bytes p) (hq : Bytes q) : (p.map fun n => UInt8.ofNat n.toNat) = (q.map fun n => UInt8.ofNat n.toNat) ↔ p = q := by
  refine ⟨fun h => ?_, fun h => by rw [h]⟩
  induction p generalizing q with
  | nil => cases q with
    | nil => rfl
    | cons y r => simp at h
  | cons x p ih => cases q with
    | nil => simp at h
    | cons y r =>
      simp only [List.map_cons, List.cons.injEq] at h
      have hx := hp x (by simp)
      have hy := hq y (by simp)
      have h1 := congrArg UInt8.toNat h.1
      rw [UInt8.toNat_ofNat', UInt8.toNat_ofNat'] at h1
      have e : x = y := by omega
      rw [e, ih (fun z hz => hp z (List.mem_cons_of_mem _ hz)) (fun z hz => hq z (List.mem_cons_of_mem _ hz)) h.2]
theorem text_eq {p q : List Int} (hp : Bytes p) (hq : Bytes q) : ((strOfNums p).toList == (strOfNums q).toList) = decide (p = q) := by
  rw [Bool.eq_iff_iff, beq_iff_eq, decide_eq_true_iff]
  refine ⟨fun h => (bytes_inj hp hq).1 ?_, fun h => by rw [h]⟩
  have h2 : (strOfNums p).data.toList = (strOfNums q).data.toList := by
    rw [ByteArray.toList_eq, ByteArray.toList_eq] at h
    exact h
  exact h2
theorem eq32 {p q : List Int} (hp : Bytes p) (hq : Bytes q) (h : p.length = 16) (g : q.length = 16) (w : World) : (binOp .eql 25 (dgV p) (dgV q)).run Tryd.prog w = .ok (.bool (decide (p = q))) w := by
  have := run_equalIn_bytes (P := Tryd.prog) w 9998 25 5 16 Tryd.underlying25 Tryd.underlying5 size5 (p.map fun n => UInt8.ofNat n.toNat) (q.map fun n => UInt8.ofNat n.toNat) (by simp [h]) (by simp [g])
  rw [bv_cells hp, bv_cells hq] at this
  have e : ((p.map fun n => UInt8.ofNat n.toNat) == (q.map fun n => UInt8.ofNat n.toNat)) = decide (p = q) := by
    rw [Bool.eq_iff_iff, beq_iff_eq, decide_eq_true_iff]
    exact bytes_inj hp hq
  rw [e] at this
  rw [run_eql_struct, this]
  rfl
theorem eqg32 (p q : List Int) (x y : Operand) (w : World) : (eqGuard .eql 25 x y (dgV p) (dgV q)).run Tryd.prog w = .ok () w := by kernel_rfl
theorem idx65 (B o n cap j : Nat) (hj : j < n) (w : World) : (Instr.indexAt 101 (.slice (some ⟨B, o, none⟩) n cap) (.int .i64 j)).run Tryd.prog w = .ok (.pointer (some ⟨B, o + j * 16, none⟩)) w := by
  go_simp
theorem exec_idx65 {o' : Oper} {a : Act} {w : World} {x y : Operand} {B o n cap j : Nat} {q : Int} (ho : o'.op = .indexAddr 101 x y) (hx : a.eval x = .slice (some ⟨B, o, none⟩) n cap) (hy : a.eval y = .int .i64 q) (hq : q = (j : Nat)) (hj : j < n) :
    (execOp a.eval o').run Tryd.prog w = .ok (.value (.pointer (some ⟨B, o + j * 16, none⟩))) w := by
  unfold execOp
  subst hq
  simp only [ho, hx, hy, Sem.run_bind, idx65 B o n cap j hj w, Result.andThen_ok, Sem.run_pure]
theorem HoldsP.at {w : World} {a0 : Option Addr} {n cap : Nat} {zs : List (List Int)} (h : HoldsP w (.slice a0 n cap) zs) (hl : zs.length = n) {i : Nat} (hi : i < n) :
    ∃ b off a1 n1 c1, a0 = some ⟨b, off, Option.none⟩ ∧ b < w.heap.size ∧ w.cell? ⟨b, off + i, Option.none⟩ = some (.slice a1 n1 c1) ∧ HoldsB w w.heap.size (.slice a1 n1 c1) (zs.getD i []) := by
  obtain ⟨a', cap', e, _, h3⟩ := h
  simp only [Value.slice.injEq] at e
  obtain ⟨rfl, -, -⟩ := e
  exact h3 i (by omega)
theorem idx31 (B o n cap j : Nat) (hj : j < n) (w : World) : (Instr.indexAt 37 (.slice (some ⟨B, o, none⟩) n cap) (.int .i64 j)).run Tryd.prog w = .ok (.pointer (some ⟨B, o + j, none⟩)) w := by
  go_simp
theorem exec_idx31 {o' : Oper} {a : Act} {w : World} {x y : Operand} {B o n cap j : Nat} {q : Int} (ho : o'.op = .indexAddr 37 x y) (hx : a.eval x = .slice (some ⟨B, o, none⟩) n cap) (hy : a.eval y = .int .i64 q) (hq : q = (j : Nat)) (hj : j < n) :
    (execOp a.eval o').run Tryd.prog w = .ok (.value (.pointer (some ⟨B, o + j, none⟩))) w := by
  unfold execOp
  subst hq
  simp only [ho, hx, hy, Sem.run_bind, idx31 B o n cap j hj w, Result.andThen_ok, Sem.run_pure]
/-- Two unlike texts with one short sum. -/
def ClashP (us bs : List (List Int)) : Prop := ∃ i k, i < us.length ∧ k < bs.length ∧ (shortL (us.getD i []) = shortL (bs.getD k []) ∧ us.getD i [] ≠ bs.getD k [])
set_option maxRecDepth 100000 in
set_option maxHeartbeats 8000000 in
theorem clash_any (a0 : Option Addr) (n c0 : Nat) (us : List (List Int)) (a1 : Option Addr) (m c1 : Nat) (bs : List (List Int)) (w : World) (ha : HoldsP w (.slice a0 n c0) us) (hb : HoldsP w (.slice a1 m c1) bs)
    (hta : ∀ i, i < n → ∃ k l, us.getD i [] = k :: l ∧ l.length ≤ 1000000) (htb : ∀ i, i < m → ∃ k l, bs.getD i [] = k :: l ∧ l.length ≤ 1000000) (hn : n ≤ 300) (hm : m ≤ 300) :
    Calls Tryd.prog 24 #[.slice a0 n c0, .slice a1 m c1] w fun r w' => ∃ x : Bool, r = .returned (.bool x) ∧ (x = true ↔ ClashP us bs) ∧ Below w.heap.size w w' := by
  have HLus : Kp (us.length = n) := ⟨by obtain ⟨a', n', c', e, hn⟩ := ha.slice; simp only [Value.slice.injEq] at e; omega⟩
  have HLbs : Kp (bs.length = m) := ⟨by obtain ⟨a', n', c', e, hn⟩ := hb.slice; simp only [Value.slice.injEq] at e; omega⟩
  have HPus := Kp.mk ha
  have HPbs := Kp.mk hb
  have HTus := Kp.mk hta
  have HTbs := Kp.mk htb
  clear ha hb hta htb
  obtain ⟨i0, hi0, hz0, hz1, hz2⟩ := info_parts info32s
  obtain ⟨A, hA⟩ : ∃ A, A = w.heap.size := ⟨_, rfl⟩
  have HA := Kp.mk hA
  go_enter Tryd.func24, Tryd.ntmps24
  clear hA
  go_wp2_with fail
  go_loopw [5, 7] (fun v c wr => ∃ i : Nat, i ≤ n ∧ c = .int .i64 i ∧ Kp (wr.ownsRow A 25 16 v i (bv (rowsL (fun i => shortL (us.getD i [])) i))) ∧ Kp (Below A w wr) ∧ Kp (A ≤ wr.heap.size)) (fun _ c _ => n - (intOf c).toNat)
  case atStart => exact ⟨0, by omega, rfl, ⟨World.ownsRow_nil _ _ _ _⟩, ⟨by rw [HA.out]; exact Below.refl _ _⟩, ⟨Nat.le_of_eq HA.out⟩⟩
  case round =>
    obtain ⟨i, hi, rfl, E5, E6, E7⟩ := hrel
    by_cases hlt : i < n
    · obtain ⟨b, off, x1, y1, z1, hab, hbw, hcell, hh⟩ := HPus.out.at HLus.out hlt
      have hbel : Below w.heap.size w wr := by rw [← HA.out]; exact E6.out
      have hc : wr.cell? ⟨b, off + i, none⟩ = some (.slice x1 y1 z1) := (World.cell?_of_block (w := w) (a := ⟨b, off + i, none⟩) (hbel.block b hbw)).trans hcell
      obtain ⟨kk, ll, hkl, hll⟩ := HTus.out i hlt
      have HH : Kp (HoldsB wr wr.heap.size (.slice x1 y1 z1) (kk :: ll)) := ⟨by rw [← hkl]; exact (hh.keep hbel).mono hbel.size⟩
      have HZ : Kp (shortL (us.getD i []) = shortL (kk :: ll)) := ⟨by rw [hkl]⟩
      have HLl := Kp.mk hll
      subst hab
      clear hbw hcell hh hbel hkl hll
      go_wp2_with fail
      refine (of_any _ _ kk ll wr HH.out HLl.out).mono ?_
      rintro q1 w1 ⟨rfl, hb⟩
      rw [← HZ.out]
      have HROW : Kp (w1.ownsRow A 25 16 u5 i (bv (rowsL (fun i => shortL (us.getD i [])) i))) := ⟨ownsRow_below E5.out hb⟩
      have HB1 : Kp (Below A w w1) := ⟨E6.out.trans (hb.mono E7.out)⟩
      have HS1 : Kp (A ≤ w1.heap.size) := ⟨Nat.le_trans E7.out hb.size⟩
      have HTk : Kp (bv (rowsL (fun i => shortL (us.getD i [])) i) ++ bv (shortL (us.getD i [])) = bv (rowsL (fun i => shortL (us.getD i [])) (i + 1))) := ⟨by rw [← List.map_append]; rfl⟩
      have HZl := Kp.mk (shortL_len (us.getD i []))
      generalize shortL (us.getD i []) = z at HTk HZl ⊢
      generalize bv (rowsL (fun i => shortL (us.getD i [])) i) = xs at HROW HTk
      have hbs := build65 HZl.out
      clear hb HH HZ HLl hc E5 E6 E7
      go_wp2_with (first
        | (refine wpList_buildSlice_one rfl 101 1 (.tmp 22) rfl (dgV z) rfl _ _ (hbs _) ?_)
        | (at_builtin; refine wpList_append_own _ rfl _ _ 101 rfl A 25 i0 _ 16 16 Tryd.underlying101 hi0 hz0 hz1 hz2 rfl (by decide) _ _ _ rfl (HROW.out.alloc _) ⟨w1.heap.size, 0, none⟩ 1 1 (bv z) rfl ?c0 (row_new _ _ _) ?c2 ?c3 ?c4 ?c5 ?_))
      case c0 => rw [bv_len, HZl.out]
      case c2 => exact bv_one _
      case c3 => unfold maxLen; omega
      case c4 => omega
      case c5 => have := HS1.out; simp; omega
      intro v2 w4 hown' hgrow _
      have HO4 : Kp (w4.ownsRow A 25 16 v2 (i + 1) (bv (rowsL (fun i => shortL (us.getD i [])) (i + 1)))) := ⟨by have := hown'; rw [HTk.out] at this; exact this⟩
      have HB4 : Kp (Below A w w4) := ⟨below_row_grown (HB1.out.alloc HS1.out _) (by have := HS1.out; simp; omega) (HROW.out.alloc _) hgrow⟩
      have HS4 : Kp (A ≤ w4.heap.size) := ⟨by have := hgrow.size; have := HS1.out; simp at *; omega⟩
      clear hown' hgrow hbs HROW HB1 HS1
      go_wp2_with fail
      exact ⟨⟨i + 1, by omega, by go_num, HO4, HB4, HS4⟩, by simp [intOf]; omega⟩
    · have hi' : n = i := by omega
      subst hi'
      clear hi hlt
      have H5 : Kp (HoldsS wr u5 n (rowsL (fun i => shortL (us.getD i [])) n)) := ⟨HoldsS.ofRow (rowsL_bytes (fun _ => shortL_bytes _) _) (by unfold maxLen; omega) (rowsL_len (fun _ => shortL_len _) _) E5.out⟩
      obtain ⟨a5, c5, rfl, -⟩ := id H5.out
      have HW1 : Kp (Below w.heap.size w wr) := ⟨by rw [← HA.out]; exact E6.out⟩
      clear E5 E6 E7
      obtain ⟨W1, hW1⟩ : ∃ W, W = wr := ⟨_, rfl⟩
      rw [← hW1] at H5 HW1
      rw [← hW1]
      clear hW1
      obtain ⟨K1, hK1⟩ : ∃ K, K = W1.heap.size := ⟨_, rfl⟩
      have HK1 := Kp.mk hK1
      clear hK1
      go_wp2_with fail
      go_loopw [6, 8] (fun v c wr => ∃ i : Nat, i ≤ m ∧ c = .int .i64 i ∧ Kp (wr.ownsRow K1 25 16 v i (bv (rowsL (fun i => shortL (bs.getD i [])) i))) ∧ Kp (Below K1 W1 wr) ∧ Kp (K1 ≤ wr.heap.size)) (fun _ c _ => m - (intOf c).toNat)
      case atStart => exact ⟨0, by omega, rfl, ⟨World.ownsRow_nil _ _ _ _⟩, ⟨by rw [HK1.out]; exact Below.refl _ _⟩, ⟨Nat.le_of_eq HK1.out⟩⟩
      case round =>
        obtain ⟨i, hi, rfl, E5, E6, E7⟩ := hrel
        by_cases hlt : i < m
        · obtain ⟨b, off, x1, y1, z1, hab, hbw, hcell, hh⟩ := HPbs.out.at HLbs.out hlt
          have hbel : Below w.heap.size w wr := HW1.out.trans (E6.out.mono (by have := HW1.out.size; rw [HK1.out]; exact this))
          have hc : wr.cell? ⟨b, off + i, none⟩ = some (.slice x1 y1 z1) := (World.cell?_of_block (w := w) (a := ⟨b, off + i, none⟩) (hbel.block b hbw)).trans hcell
          obtain ⟨kk, ll, hkl, hll⟩ := HTbs.out i hlt
          have HH : Kp (HoldsB wr wr.heap.size (.slice x1 y1 z1) (kk :: ll)) := ⟨by rw [← hkl]; exact (hh.keep hbel).mono hbel.size⟩
          have HZ : Kp (shortL (bs.getD i []) = shortL (kk :: ll)) := ⟨by rw [hkl]⟩
          have HLl := Kp.mk hll
          subst hab
          clear hbw hcell hh hbel hkl hll
          go_wp2_with fail
          refine (of_any _ _ kk ll wr HH.out HLl.out).mono ?_
          rintro q1 w1 ⟨rfl, hb⟩
          rw [← HZ.out]
          have HROW : Kp (w1.ownsRow K1 25 16 u6 i (bv (rowsL (fun i => shortL (bs.getD i [])) i))) := ⟨ownsRow_below E5.out hb⟩
          have HB1 : Kp (Below K1 W1 w1) := ⟨E6.out.trans (hb.mono E7.out)⟩
          have HS1 : Kp (K1 ≤ w1.heap.size) := ⟨Nat.le_trans E7.out hb.size⟩
          have HTk : Kp (bv (rowsL (fun i => shortL (bs.getD i [])) i) ++ bv (shortL (bs.getD i [])) = bv (rowsL (fun i => shortL (bs.getD i [])) (i + 1))) := ⟨by rw [← List.map_append]; rfl⟩
          have HZl := Kp.mk (shortL_len (bs.getD i []))
          generalize shortL (bs.getD i []) = z at HTk HZl ⊢
          generalize bv (rowsL (fun i => shortL (bs.getD i [])) i) = xs at HROW HTk
          have hbs := build65 HZl.out
          clear hb HH HZ HLl hc E5 E6 E7
          go_wp2_with (first
            | (refine wpList_buildSlice_one rfl 101 1 (.tmp 36) rfl (dgV z) rfl _ _ (hbs _) ?_)
            | (at_builtin; refine wpList_append_own _ rfl _ _ 101 rfl K1 25 i0 _ 16 16 Tryd.underlying101 hi0 hz0 hz1 hz2 rfl (by decide) _ _ _ rfl (HROW.out.alloc _) ⟨w1.heap.size, 0, none⟩ 1 1 (bv z) rfl ?c0 (row_new _ _ _) ?c2 ?c3 ?c4 ?c5 ?_))
          case c0 => rw [bv_len, HZl.out]
          case c2 => exact bv_one _
          case c3 => unfold maxLen; omega
          case c4 => omega
          case c5 => have := HS1.out; simp; omega
          intro v2 w4 hown' hgrow _
          have HO4 : Kp (w4.ownsRow K1 25 16 v2 (i + 1) (bv (rowsL (fun i => shortL (bs.getD i [])) (i + 1)))) := ⟨by have := hown'; rw [HTk.out] at this; exact this⟩
          have HB4 : Kp (Below K1 W1 w4) := ⟨below_row_grown (HB1.out.alloc HS1.out _) (by have := HS1.out; simp; omega) (HROW.out.alloc _) hgrow⟩
          have HS4 : Kp (K1 ≤ w4.heap.size) := ⟨by have := hgrow.size; have := HS1.out; simp at *; omega⟩
          clear hown' hgrow hbs HROW HB1 HS1
          go_wp2_with fail
          exact ⟨⟨i + 1, by omega, by go_num, HO4, HB4, HS4⟩, by simp [intOf]; omega⟩
        · have hi' : m = i := by omega
          subst hi'
          clear hi hlt
          have H6 : Kp (HoldsS wr u6 m (rowsL (fun i => shortL (bs.getD i [])) m)) := ⟨HoldsS.ofRow (rowsL_bytes (fun _ => shortL_bytes _) _) (by unfold maxLen; omega) (rowsL_len (fun _ => shortL_len _) _) E5.out⟩
          have H5' : Kp (HoldsS wr (.slice a5 n c5) n (rowsL (fun i => shortL (us.getD i [])) n)) := ⟨H5.out.keep (by rw [← HK1.out]; exact E6.out)⟩
          obtain ⟨a6, c6, rfl, -⟩ := id H6.out
          have HW2 : Kp (Below w.heap.size w wr) := ⟨HW1.out.trans (E6.out.mono (by have := HW1.out.size; rw [HK1.out]; exact this))⟩
          have HWs : Kp (w.heap.size ≤ wr.heap.size) := ⟨HW2.out.size⟩
          have HA2 := Kp.mk (HPus.out.keep HW2.out)
          have HB2 := Kp.mk (HPbs.out.keep HW2.out)
          have H52 := H5'
          have H62 := H6
          clear H5 H5' H6 E5 E6 E7 HW1 HPus HPbs
          obtain ⟨W2, hW2⟩ : ∃ W, W = wr := ⟨_, rfl⟩
          rw [← hW2] at HA2 HB2 H52 H62 HW2 HWs
          rw [← hW2]
          clear hW2
          obtain ⟨K2, hK2⟩ : ∃ K, K = W2.heap.size := ⟨_, rfl⟩
          have HK2 := Kp.mk hK2
          clear hK2
          go_wp2_with fail
          go_loopw [9] (fun c wr => ∃ i : Nat, i ≤ n ∧ c = .int .i64 i ∧ Kp (∀ i', i' < i → ∀ k', k' < m → ¬ (shortL (us.getD i' []) = shortL (bs.getD k' []) ∧ us.getD i' [] ≠ bs.getD k' [])) ∧ Kp (Below K2 W2 wr) ∧ Kp (K2 ≤ wr.heap.size)) (fun c _ => n - (intOf c).toNat)
          case atStart => exact ⟨0, by omega, rfl, ⟨fun i' h => by omega⟩, ⟨by rw [HK2.out]; exact Below.refl _ _⟩, ⟨Nat.le_of_eq HK2.out⟩⟩
          case round =>
            obtain ⟨i, hi, rfl, HNi, HBo, HKo⟩ := hrel
            by_cases hlt : i < n
            · go_wp2_with fail
              go_loopw [10] (fun c wr => ∃ k : Nat, k ≤ m ∧ c = .int .i64 k ∧ Kp (∀ k', k' < k → ¬ (shortL (us.getD i []) = shortL (bs.getD k' []) ∧ us.getD i [] ≠ bs.getD k' [])) ∧ Kp (Below K2 W2 wr) ∧ Kp (K2 ≤ wr.heap.size)) (fun c _ => m - (intOf c).toNat)
              case atStart => exact ⟨0, by omega, rfl, ⟨fun k' h => by omega⟩, HBo, HKo⟩
              case round =>
                obtain ⟨k, hk, rfl, HNk, HB, HKs⟩ := hrel
                clear HBo HKo
                by_cases hkt : k < m
                · obtain ⟨b, off, x1, y1, z1, hab, hbw, hcell, hh⟩ := HA2.out.at HLus.out hlt
                  obtain ⟨b', off', x2, y2, z2, hab', hbw', hcell', hh'⟩ := HB2.out.at HLbs.out hkt
                  obtain ⟨b5, off5, hs5, hb5, hr5⟩ := H52.out.range hlt
                  obtain ⟨b6, off6, hs6, hb6, hr6⟩ := H62.out.range hkt
                  have hbel : Below W2.heap.size W2 wr := by rw [← HK2.out]; exact HB.out
                  have QA : Kp (wr.cell? ⟨b, off + i, none⟩ = some (.slice x1 y1 z1) ∧ b < wr.heap.size) := ⟨(World.cell?_of_block (w := W2) (a := ⟨b, off + i, none⟩) (hbel.block b hbw)).trans hcell, Nat.lt_of_lt_of_le hbw hbel.size⟩
                  have QB : Kp (wr.cell? ⟨b', off' + k, none⟩ = some (.slice x2 y2 z2) ∧ b' < wr.heap.size) := ⟨(World.cell?_of_block (w := W2) (a := ⟨b', off' + k, none⟩) (hbel.block b' hbw')).trans hcell', Nat.lt_of_lt_of_le hbw' hbel.size⟩
                  have e5 : segL (rowsL (fun i => shortL (us.getD i [])) n) i = shortL (us.getD i []) := rowsL_mid (fun _ => shortL_len _) n i hlt
                  have e6 : segL (rowsL (fun i => shortL (bs.getD i [])) m) k = shortL (bs.getD k []) := rowsL_mid (fun _ => shortL_len _) m k hkt
                  rw [e5] at hr5
                  rw [e6] at hr6
                  obtain ⟨ta, hta⟩ : ∃ t, t = us.getD i [] := ⟨_, rfl⟩
                  obtain ⟨tb, htb⟩ : ∃ t, t = bs.getD k [] := ⟨_, rfl⟩
                  rw [← hta] at hh hr5
                  rw [← htb] at hh' hr6
                  have QT : Kp (HoldsB wr wr.heap.size (.slice x1 y1 z1) ta) := ⟨(hh.keep hbel).mono hbel.size⟩
                  have QU : Kp (HoldsB wr wr.heap.size (.slice x2 y2 z2) tb) := ⟨(hh'.keep hbel).mono hbel.size⟩
                  have HTX : Kp ((!((strOfNums ta).toList == (strOfNums tb).toList)) = !decide (ta = tb)) := ⟨by rw [text_eq hh.bytes hh'.bytes]⟩
                  obtain ⟨sa, hsa⟩ : ∃ s, s = shortL ta := ⟨_, rfl⟩
                  obtain ⟨sb, hsb⟩ : ∃ s, s = shortL tb := ⟨_, rfl⟩
                  rw [← hsa] at hr5
                  rw [← hsb] at hr6
                  have HSa : Kp (sa.length = 16 ∧ Bytes sa) := ⟨by rw [hsa]; exact ⟨shortL_len _, shortL_bytes _⟩⟩
                  have HSb : Kp (sb.length = 16 ∧ Bytes sb) := ⟨by rw [hsb]; exact ⟨shortL_len _, shortL_bytes _⟩⟩
                  have Q5 : Kp (wr.rangeAt b5 (off5 + i * 16) (kv .u8 sa) ∧ b5 < wr.heap.size) := ⟨fun j' v' hv' => (hbel.cell (p := ⟨b5, off5 + i * 16 + j', none⟩) hb5).trans (hr5 j' v' hv'), Nat.lt_of_lt_of_le hb5 hbel.size⟩
                  have Q6 : Kp (wr.rangeAt b6 (off6 + k * 16) (kv .u8 sb) ∧ b6 < wr.heap.size) := ⟨fun j' v' hv' => (hbel.cell (p := ⟨b6, off6 + k * 16 + j', none⟩) hb6).trans (hr6 j' v' hv'), Nat.lt_of_lt_of_le hb6 hbel.size⟩
                  have HIK : Kp ((shortL (us.getD i []) = shortL (bs.getD k []) ∧ us.getD i [] ≠ bs.getD k []) ↔ (sa = sb ∧ ta ≠ tb)) := ⟨by rw [hsa, hsb, hta, htb]⟩
                  have HEQ0 : Kp (∀ w, (binOp .eql 25 (dgV sa) (dgV sb)).run Tryd.prog w = .ok (.bool (decide (sa = sb))) w) := ⟨fun w => eq32 HSa.out.2 HSb.out.2 HSa.out.1 HSb.out.1 w⟩
                  subst hab hab' hs5 hs6
                  clear hbw hcell hh hbw' hcell' hh' hb5 hr5 hb6 hr6 hbel e5 e6 hta htb hsa hsb
                  go_wp2_with fail
                  by_cases hst : sa = sb
                  · have HEQ : Kp (∀ w, (binOp .eql 25 (dgV sa) (dgV sb)).run Tryd.prog w = .ok (.bool true) w) := ⟨fun w => by rw [HEQ0.out w, decide_eq_true hst]⟩
                    by_cases htt : ta = tb
                    · have HTX2 : Kp ((!((strOfNums ta).toList == (strOfNums tb).toList)) = false) := ⟨by rw [HTX.out, decide_eq_true htt]; rfl⟩
                      have HNo : Kp (¬ (shortL (us.getD i []) = shortL (bs.getD k []) ∧ us.getD i [] ≠ bs.getD k [])) := ⟨fun h => (HIK.out.1 h).2 htt⟩
                      clear hst htt HEQ0
                      refine wp_region_pred (fun w' => (w'.cell? ⟨b, off + i, none⟩ = some (.slice x1 y1 z1) ∧ b < w'.heap.size) ∧ (w'.cell? ⟨b', off' + k, none⟩ = some (.slice x2 y2 z2) ∧ b' < w'.heap.size) ∧ (w'.rangeAt b5 (off5 + i * 16) (kv .u8 sa) ∧ b5 < w'.heap.size) ∧ (w'.rangeAt b6 (off6 + k * 16) (kv .u8 sb) ∧ b6 < w'.heap.size) ∧ HoldsB w' w'.heap.size (.slice x1 y1 z1) ta ∧ HoldsB w' w'.heap.size (.slice x2 y2 z2) tb ∧ (Below K2 W2 w' ∧ K2 ≤ w'.heap.size)) [0, 1, 2, 3, 4, 5, 6, 7, 8, 9, 10, 11, 12, 13, 14, 15, 16, 17, 18, 19, 20, 21] []
                        (fun ι w' v => match ι with
                          | 0 => v = .slice (some ⟨b5, off5, none⟩) n c5
                          | 1 | 11 => v = .int .i64 i
                          | 2 => v = .pointer (some ⟨b5, off5 + i * 16, none⟩)
                          | 3 => v = dgV sa
                          | 4 => v = .slice (some ⟨b6, off6, none⟩) m c6
                          | 5 | 16 => v = .int .i64 k
                          | 6 => v = .pointer (some ⟨b6, off6 + k * 16, none⟩)
                          | 7 => v = dgV sb
                          | 10 => v = .slice (some ⟨b, off, none⟩) n c0
                          | 12 => v = .pointer (some ⟨b, off + i, none⟩)
                          | 13 => v = .slice x1 y1 z1
                          | 14 => v = .string (strOfNums ta)
                          | 15 => v = .slice (some ⟨b', off', none⟩) m c1
                          | 17 => v = .pointer (some ⟨b', off' + k, none⟩)
                          | 18 => v = .slice x2 y2 z2
                          | 19 => v = .string (strOfNums tb)
                          | 20 | 21 => v = .bool false
                          | _ => v = .bool true)
                        [[], [], [(0, some 51), (1, some 52)], [(2, some 53)], [], [], [(4, some 55), (5, some 56)], [(6, some 57)], [(3, some 54), (7, some 58)], [(8, some 59)], [(9, some 60)], [(9, some 60)], [(9, some 60), (10, some 61), (11, some 62)], [(9, some 60), (12, some 63)], [(9, some 60), (13, some 64)], [(9, some 60)], [(9, some 60)], [(9, some 60), (15, some 66), (16, some 67)], [(9, some 60), (17, some 68)], [(9, some 60), (18, some 69)], [(9, some 60), (14, some 65), (19, some 70)], [(9, some 60), (20, some 71)]]
                        [(0, some 51), (1, some 52), (2, some 53), (3, some 54), (4, some 55), (5, some 56), (6, some 57), (7, some 58), (8, some 59), (9, some 60), (10, some 61), (11, some 62), (12, some 63), (13, some 64), (14, some 65), (15, some 66), (16, some 67), (17, some 68), (18, some 69), (19, some 70), (20, some 71), (21, some 72)]
                        (by kernel_rfl) (by kernel_rfl) (by kernel_rfl) (by kernel_rfl) (by kernel_rfl) (by kernel_rfl) (by decide) (by decide) (fun w1 w2 h hb => ⟨⟨(hb.cell (p := ⟨b, off + i, none⟩) h.1.2).trans h.1.1, Nat.lt_of_lt_of_le h.1.2 hb.size⟩, ⟨(hb.cell (p := ⟨b', off' + k, none⟩) h.2.1.2).trans h.2.1.1, Nat.lt_of_lt_of_le h.2.1.2 hb.size⟩, ⟨fun j' v' hv' => (hb.cell (p := ⟨b5, off5 + i * 16 + j', none⟩) h.2.2.1.2).trans (h.2.2.1.1 j' v' hv'), Nat.lt_of_lt_of_le h.2.2.1.2 hb.size⟩, ⟨fun j' v' hv' => (hb.cell (p := ⟨b6, off6 + k * 16 + j', none⟩) h.2.2.2.1.2).trans (h.2.2.2.1.1 j' v' hv'), Nat.lt_of_lt_of_le h.2.2.2.1.2 hb.size⟩, (HoldsB.keep h.2.2.2.2.1 hb).mono hb.size, (HoldsB.keep h.2.2.2.2.2.1 hb).mono hb.size, ⟨h.2.2.2.2.2.2.1.trans (hb.mono h.2.2.2.2.2.2.2), Nat.le_trans h.2.2.2.2.2.2.2 hb.size⟩⟩) ?_ ⟨QA.out, QB.out, Q5.out, Q6.out, QT.out, QU.out, ⟨HB.out.drew, HKs.out⟩⟩ ?_ ?_
                      · intro ι w1 w2 v h hb
                        match ι, h with
                        | 0, h => exact h
                        | 1, h => exact h
                        | 2, h => exact h
                        | 3, h => exact h
                        | 4, h => exact h
                        | 5, h => exact h
                        | 6, h => exact h
                        | 7, h => exact h
                        | 8, h => exact h
                        | 9, h => exact h
                        | 10, h => exact h
                        | 11, h => exact h
                        | 12, h => exact h
                        | 13, h => exact h
                        | 14, h => exact h
                        | 15, h => exact h
                        | 16, h => exact h
                        | 17, h => exact h
                        | 18, h => exact h
                        | 19, h => exact h
                        | 20, h => exact h
                        | 21, h => exact h
                        | _ + 22, h => exact h
                      · refine ⟨fun γ wx hS h => ?_, fun γ wx hS h => ?_, fun γ wx hS h => ?_, fun γ wx hS h => ?_, fun γ wx hS h => ?_, fun γ wx hS h => ?_, fun γ wx hS h => ?_, fun γ wx hS h => ?_, fun γ wx hS h => ?_, fun γ wx hS h => ?_, fun γ wx hS h => ?_, fun γ wx hS h => ?_, fun γ wx hS h => ?_, fun γ wx hS h => ?_, fun γ wx hS h => ?_, fun γ wx hS h => ?_, fun γ wx hS h => ?_, fun γ wx hS h => ?_, fun γ wx hS h => ?_, fun γ wx hS h => ?_, fun γ wx hS h => ?_, fun γ wx hS h => ?_, trivial⟩
                        · refine ⟨_, rfl, Or.inl ⟨rfl, predRun_value (v := .slice (some ⟨b5, off5, none⟩) n c5) (by simp only [putE]; first | rfl | (go_simp; done) | (go_simp; with_reducible rfl) | (go_simp; rfl)) rfl⟩⟩
                        · refine ⟨_, rfl, Or.inl ⟨rfl, predRun_value (v := .int .i64 i) (by simp only [putE]; first | rfl | (go_simp; done) | (go_simp; with_reducible rfl) | (go_simp; rfl)) rfl⟩⟩
                        · obtain ⟨h0, h1⟩ := h
                          have e0 : γ 0 = .slice (some ⟨b5, off5, none⟩) n c5 := h0
                          have e1 : γ 1 = .int .i64 i := h1
                          refine ⟨_, rfl, Or.inl ⟨rfl, predRun_value (exec_idx65 (x := .tmp 51) (y := .tmp 52) (B := b5) (o := off5) (n := n) (cap := c5) (j := i) rfl (by simp only [putE, e0, e1, Act.put, List.setIfInBounds_toArray, List.set_cons_zero, List.set_cons_succ]; rfl) (by simp only [putE, e0, e1, Act.put, List.setIfInBounds_toArray, List.set_cons_zero, List.set_cons_succ]; rfl) rfl hlt) rfl⟩⟩
                        · have h2 := h
                          have e2 : γ 2 = .pointer (some ⟨b5, off5 + i * 16, none⟩) := h2
                          refine ⟨_, rfl, Or.inl ⟨rfl, predRun_value (exec_load_midS (b := b5) (off := off5 + i * 16) (x := .tmp 53) (cs := kv .u8 sa) rfl (by simp only [putE, e2, Act.put, List.setIfInBounds_toArray, List.set_cons_zero, List.set_cons_succ]; rfl) hS.2.2.1.1 Tryd.underlying25 rfl (cellsL32 HSa.out.1)) rfl⟩⟩
                        · refine ⟨_, rfl, Or.inl ⟨rfl, predRun_value (v := .slice (some ⟨b6, off6, none⟩) m c6) (by simp only [putE]; first | rfl | (go_simp; done) | (go_simp; with_reducible rfl) | (go_simp; rfl)) rfl⟩⟩
                        · refine ⟨_, rfl, Or.inl ⟨rfl, predRun_value (v := .int .i64 k) (by simp only [putE]; first | rfl | (go_simp; done) | (go_simp; with_reducible rfl) | (go_simp; rfl)) rfl⟩⟩
                        · obtain ⟨h4, h5⟩ := h
                          have e4 : γ 4 = .slice (some ⟨b6, off6, none⟩) m c6 := h4
                          have e5 : γ 5 = .int .i64 k := h5
                          refine ⟨_, rfl, Or.inl ⟨rfl, predRun_value (exec_idx65 (x := .tmp 55) (y := .tmp 56) (B := b6) (o := off6) (n := m) (cap := c6) (j := k) rfl (by simp only [putE, e4, e5, Act.put, List.setIfInBounds_toArray, List.set_cons_zero, List.set_cons_succ]; rfl) (by simp only [putE, e4, e5, Act.put, List.setIfInBounds_toArray, List.set_cons_zero, List.set_cons_succ]; rfl) rfl hkt) rfl⟩⟩
                        · have h6 := h
                          have e6 : γ 6 = .pointer (some ⟨b6, off6 + k * 16, none⟩) := h6
                          refine ⟨_, rfl, Or.inl ⟨rfl, predRun_value (exec_load_midS (b := b6) (off := off6 + k * 16) (x := .tmp 57) (cs := kv .u8 sb) rfl (by simp only [putE, e6, Act.put, List.setIfInBounds_toArray, List.set_cons_zero, List.set_cons_succ]; rfl) hS.2.2.2.1.1 Tryd.underlying25 rfl (cellsL32 HSb.out.1)) rfl⟩⟩
                        · obtain ⟨h3, h7⟩ := h
                          have e3 : γ 3 = dgV sa := h3
                          have e7 : γ 7 = dgV sb := h7
                          refine ⟨_, rfl, Or.inl ⟨rfl, predRun_value (v := .bool true) (by simp only [putE, e3, e7]; have hq := HEQ.out; have hg := eqg32; first | rfl | (go_simp; done) | (go_simp; with_reducible rfl) | (go_simp; rfl)) rfl⟩⟩
                        · have h8 := h
                          have e8 : γ 8 = .bool true := h8
                          refine ⟨_, rfl, Or.inl ⟨rfl, predRun_value (v := .bool true) (by simp only [putE, e8]; first | rfl | (go_simp; done) | (go_simp; with_reducible rfl) | (go_simp; rfl)) rfl⟩⟩
                        · have h9 := h
                          have e9 : γ 9 = .bool true := h9
                          refine ⟨_, rfl, Or.inl ⟨(by simp only [putE, e9]; rfl), predRun_value (v := .slice (some ⟨b, off, none⟩) n c0) (by simp only [putE, e9]; first | rfl | (go_simp; done) | (go_simp; with_reducible rfl) | (go_simp; rfl)) rfl⟩⟩
                        · have h9 := h
                          have e9 : γ 9 = .bool true := h9
                          refine ⟨_, rfl, Or.inl ⟨(by simp only [putE, e9]; rfl), predRun_value (v := .int .i64 i) (by simp only [putE, e9]; first | rfl | (go_simp; done) | (go_simp; with_reducible rfl) | (go_simp; rfl)) rfl⟩⟩
                        · obtain ⟨h9, h10, h11⟩ := h
                          have e9 : γ 9 = .bool true := h9
                          have e10 : γ 10 = .slice (some ⟨b, off, none⟩) n c0 := h10
                          have e11 : γ 11 = .int .i64 i := h11
                          refine ⟨_, rfl, Or.inl ⟨(by simp only [putE, e9, e10, e11]; rfl), predRun_value (exec_idx31 (x := .tmp 61) (y := .tmp 62) (B := b) (o := off) (n := n) (cap := c0) (j := i) rfl (by simp only [putE, e9, e10, e11, Act.put, List.setIfInBounds_toArray, List.set_cons_zero, List.set_cons_succ]; rfl) (by simp only [putE, e9, e10, e11, Act.put, List.setIfInBounds_toArray, List.set_cons_zero, List.set_cons_succ]; rfl) rfl hlt) rfl⟩⟩
                        · obtain ⟨h9, h12⟩ := h
                          have e9 : γ 9 = .bool true := h9
                          have e12 : γ 12 = .pointer (some ⟨b, off + i, none⟩) := h12
                          refine ⟨_, rfl, Or.inl ⟨(by simp only [putE, e9, e12]; rfl), predRun_value (v := .slice x1 y1 z1) (by simp only [putE, e9, e12]; have hx := hS.1.1; go_simp) rfl⟩⟩
                        · obtain ⟨h9, h13⟩ := h
                          have e9 : γ 9 = .bool true := h9
                          have e13 : γ 13 = .slice x1 y1 z1 := h13
                          refine ⟨_, rfl, Or.inl ⟨(by simp only [putE, e9, e13]; rfl), predRun_value (v := .string (strOfNums ta)) (by simp only [putE, e9, e13]; have ht := hS.2.2.2.2.1.text; first | rfl | (go_simp; done) | (go_simp; with_reducible rfl) | (go_simp; rfl)) rfl⟩⟩
                        · have h9 := h
                          have e9 : γ 9 = .bool true := h9
                          refine ⟨_, rfl, Or.inl ⟨(by simp only [putE, e9]; rfl), predRun_value (v := .slice (some ⟨b', off', none⟩) m c1) (by simp only [putE, e9]; first | rfl | (go_simp; done) | (go_simp; with_reducible rfl) | (go_simp; rfl)) rfl⟩⟩
                        · have h9 := h
                          have e9 : γ 9 = .bool true := h9
                          refine ⟨_, rfl, Or.inl ⟨(by simp only [putE, e9]; rfl), predRun_value (v := .int .i64 k) (by simp only [putE, e9]; first | rfl | (go_simp; done) | (go_simp; with_reducible rfl) | (go_simp; rfl)) rfl⟩⟩
                        · obtain ⟨h9, h15, h16⟩ := h
                          have e9 : γ 9 = .bool true := h9
                          have e15 : γ 15 = .slice (some ⟨b', off', none⟩) m c1 := h15
                          have e16 : γ 16 = .int .i64 k := h16
                          refine ⟨_, rfl, Or.inl ⟨(by simp only [putE, e9, e15, e16]; rfl), predRun_value (exec_idx31 (x := .tmp 66) (y := .tmp 67) (B := b') (o := off') (n := m) (cap := c1) (j := k) rfl (by simp only [putE, e9, e15, e16, Act.put, List.setIfInBounds_toArray, List.set_cons_zero, List.set_cons_succ]; rfl) (by simp only [putE, e9, e15, e16, Act.put, List.setIfInBounds_toArray, List.set_cons_zero, List.set_cons_succ]; rfl) rfl hkt) rfl⟩⟩
                        · obtain ⟨h9, h17⟩ := h
                          have e9 : γ 9 = .bool true := h9
                          have e17 : γ 17 = .pointer (some ⟨b', off' + k, none⟩) := h17
                          refine ⟨_, rfl, Or.inl ⟨(by simp only [putE, e9, e17]; rfl), predRun_value (v := .slice x2 y2 z2) (by simp only [putE, e9, e17]; have hx := hS.2.1.1; go_simp) rfl⟩⟩
                        · obtain ⟨h9, h18⟩ := h
                          have e9 : γ 9 = .bool true := h9
                          have e18 : γ 18 = .slice x2 y2 z2 := h18
                          refine ⟨_, rfl, Or.inl ⟨(by simp only [putE, e9, e18]; rfl), predRun_value (v := .string (strOfNums tb)) (by simp only [putE, e9, e18]; have ht := hS.2.2.2.2.2.1.text; first | rfl | (go_simp; done) | (go_simp; with_reducible rfl) | (go_simp; rfl)) rfl⟩⟩
                        · obtain ⟨h9, h14, h19⟩ := h
                          have e9 : γ 9 = .bool true := h9
                          have e14 : γ 14 = .string (strOfNums ta) := h14
                          have e19 : γ 19 = .string (strOfNums tb) := h19
                          refine ⟨_, rfl, Or.inl ⟨(by simp only [putE, e9, e14, e19]; rfl), predRun_value (v := .bool (!((strOfNums ta).toList == (strOfNums tb).toList))) (by simp only [putE, e9, e14, e19]; generalize strOfNums ta = s0; generalize strOfNums tb = s1; first | (go_simp; done) | (go_simp; rfl)) ?_⟩⟩
                          exact congrArg Value.bool HTX2.out
                        · obtain ⟨h9, h20⟩ := h
                          have e9 : γ 9 = .bool true := h9
                          have e20 : γ 20 = .bool false := h20
                          refine ⟨_, rfl, Or.inl ⟨rfl, predRun_value (v := .bool false) (by simp only [putE, e9, e20]; first | rfl | (go_simp; done) | (go_simp; with_reducible rfl) | (go_simp; rfl)) rfl⟩⟩
                      · intro γ w9 hS h
                        have e21 : γ 21 = .bool false := h.2.2.2.2.2.2.2.2.2.2.2.2.2.2.2.2.2.2.2.2.2
                        simp only [putE, Act.put, List.setIfInBounds_toArray, List.set_cons_zero, List.set_cons_succ]
                        rw [e21]
                        have HB9 := Kp.mk hS.2.2.2.2.2.2
                        clear h hS e21 QA QB Q5 Q6 QT QU HB HKs
                        refine wpOps_done ?_
                        go_wp2_with fail
                        exact ⟨⟨k + 1, by omega, by go_num, ⟨fun k' hk' => by
                          rcases Nat.lt_succ_iff_lt_or_eq.1 hk' with h | h
                          · exact HNk.out k' h
                          · subst h; exact HNo.out⟩, ⟨HB9.out.1⟩, ⟨HB9.out.2⟩⟩, by simp [intOf]; omega⟩
                    · have HTX2 : Kp ((!((strOfNums ta).toList == (strOfNums tb).toList)) = true) := ⟨by rw [HTX.out, decide_eq_false htt]; rfl⟩
                      have HYes : Kp (ClashP us bs) := ⟨⟨i, k, by rw [HLus.out]; exact hlt, by rw [HLbs.out]; exact hkt, HIK.out.2 ⟨hst, htt⟩⟩⟩
                      clear hst htt HEQ0
                      refine wp_region_pred (fun w' => (w'.cell? ⟨b, off + i, none⟩ = some (.slice x1 y1 z1) ∧ b < w'.heap.size) ∧ (w'.cell? ⟨b', off' + k, none⟩ = some (.slice x2 y2 z2) ∧ b' < w'.heap.size) ∧ (w'.rangeAt b5 (off5 + i * 16) (kv .u8 sa) ∧ b5 < w'.heap.size) ∧ (w'.rangeAt b6 (off6 + k * 16) (kv .u8 sb) ∧ b6 < w'.heap.size) ∧ HoldsB w' w'.heap.size (.slice x1 y1 z1) ta ∧ HoldsB w' w'.heap.size (.slice x2 y2 z2) tb ∧ (Below K2 W2 w' ∧ K2 ≤ w'.heap.size)) [0, 1, 2, 3, 4, 5, 6, 7, 8, 9, 10, 11, 12, 13, 14, 15, 16, 17, 18, 19, 20, 21] []
                        (fun ι w' v => match ι with
                          | 0 => v = .slice (some ⟨b5, off5, none⟩) n c5
                          | 1 | 11 => v = .int .i64 i
                          | 2 => v = .pointer (some ⟨b5, off5 + i * 16, none⟩)
                          | 3 => v = dgV sa
                          | 4 => v = .slice (some ⟨b6, off6, none⟩) m c6
                          | 5 | 16 => v = .int .i64 k
                          | 6 => v = .pointer (some ⟨b6, off6 + k * 16, none⟩)
                          | 7 => v = dgV sb
                          | 10 => v = .slice (some ⟨b, off, none⟩) n c0
                          | 12 => v = .pointer (some ⟨b, off + i, none⟩)
                          | 13 => v = .slice x1 y1 z1
                          | 14 => v = .string (strOfNums ta)
                          | 15 => v = .slice (some ⟨b', off', none⟩) m c1
                          | 17 => v = .pointer (some ⟨b', off' + k, none⟩)
                          | 18 => v = .slice x2 y2 z2
                          | 19 => v = .string (strOfNums tb)
                          | _ => v = .bool true)
                        [[], [], [(0, some 51), (1, some 52)], [(2, some 53)], [], [], [(4, some 55), (5, some 56)], [(6, some 57)], [(3, some 54), (7, some 58)], [(8, some 59)], [(9, some 60)], [(9, some 60)], [(9, some 60), (10, some 61), (11, some 62)], [(9, some 60), (12, some 63)], [(9, some 60), (13, some 64)], [(9, some 60)], [(9, some 60)], [(9, some 60), (15, some 66), (16, some 67)], [(9, some 60), (17, some 68)], [(9, some 60), (18, some 69)], [(9, some 60), (14, some 65), (19, some 70)], [(9, some 60), (20, some 71)]]
                        [(0, some 51), (1, some 52), (2, some 53), (3, some 54), (4, some 55), (5, some 56), (6, some 57), (7, some 58), (8, some 59), (9, some 60), (10, some 61), (11, some 62), (12, some 63), (13, some 64), (14, some 65), (15, some 66), (16, some 67), (17, some 68), (18, some 69), (19, some 70), (20, some 71), (21, some 72)]
                        (by kernel_rfl) (by kernel_rfl) (by kernel_rfl) (by kernel_rfl) (by kernel_rfl) (by kernel_rfl) (by decide) (by decide) (fun w1 w2 h hb => ⟨⟨(hb.cell (p := ⟨b, off + i, none⟩) h.1.2).trans h.1.1, Nat.lt_of_lt_of_le h.1.2 hb.size⟩, ⟨(hb.cell (p := ⟨b', off' + k, none⟩) h.2.1.2).trans h.2.1.1, Nat.lt_of_lt_of_le h.2.1.2 hb.size⟩, ⟨fun j' v' hv' => (hb.cell (p := ⟨b5, off5 + i * 16 + j', none⟩) h.2.2.1.2).trans (h.2.2.1.1 j' v' hv'), Nat.lt_of_lt_of_le h.2.2.1.2 hb.size⟩, ⟨fun j' v' hv' => (hb.cell (p := ⟨b6, off6 + k * 16 + j', none⟩) h.2.2.2.1.2).trans (h.2.2.2.1.1 j' v' hv'), Nat.lt_of_lt_of_le h.2.2.2.1.2 hb.size⟩, (HoldsB.keep h.2.2.2.2.1 hb).mono hb.size, (HoldsB.keep h.2.2.2.2.2.1 hb).mono hb.size, ⟨h.2.2.2.2.2.2.1.trans (hb.mono h.2.2.2.2.2.2.2), Nat.le_trans h.2.2.2.2.2.2.2 hb.size⟩⟩) ?_ ⟨QA.out, QB.out, Q5.out, Q6.out, QT.out, QU.out, ⟨HB.out.drew, HKs.out⟩⟩ ?_ ?_
                      · intro ι w1 w2 v h hb
                        match ι, h with
                        | 0, h => exact h
                        | 1, h => exact h
                        | 2, h => exact h
                        | 3, h => exact h
                        | 4, h => exact h
                        | 5, h => exact h
                        | 6, h => exact h
                        | 7, h => exact h
                        | 8, h => exact h
                        | 9, h => exact h
                        | 10, h => exact h
                        | 11, h => exact h
                        | 12, h => exact h
                        | 13, h => exact h
                        | 14, h => exact h
                        | 15, h => exact h
                        | 16, h => exact h
                        | 17, h => exact h
                        | 18, h => exact h
                        | 19, h => exact h
                        | 20, h => exact h
                        | 21, h => exact h
                        | _ + 22, h => exact h
                      · refine ⟨fun γ wx hS h => ?_, fun γ wx hS h => ?_, fun γ wx hS h => ?_, fun γ wx hS h => ?_, fun γ wx hS h => ?_, fun γ wx hS h => ?_, fun γ wx hS h => ?_, fun γ wx hS h => ?_, fun γ wx hS h => ?_, fun γ wx hS h => ?_, fun γ wx hS h => ?_, fun γ wx hS h => ?_, fun γ wx hS h => ?_, fun γ wx hS h => ?_, fun γ wx hS h => ?_, fun γ wx hS h => ?_, fun γ wx hS h => ?_, fun γ wx hS h => ?_, fun γ wx hS h => ?_, fun γ wx hS h => ?_, fun γ wx hS h => ?_, fun γ wx hS h => ?_, trivial⟩
                        · refine ⟨_, rfl, Or.inl ⟨rfl, predRun_value (v := .slice (some ⟨b5, off5, none⟩) n c5) (by simp only [putE]; first | rfl | (go_simp; done) | (go_simp; with_reducible rfl) | (go_simp; rfl)) rfl⟩⟩
                        · refine ⟨_, rfl, Or.inl ⟨rfl, predRun_value (v := .int .i64 i) (by simp only [putE]; first | rfl | (go_simp; done) | (go_simp; with_reducible rfl) | (go_simp; rfl)) rfl⟩⟩
                        · obtain ⟨h0, h1⟩ := h
                          have e0 : γ 0 = .slice (some ⟨b5, off5, none⟩) n c5 := h0
                          have e1 : γ 1 = .int .i64 i := h1
                          refine ⟨_, rfl, Or.inl ⟨rfl, predRun_value (exec_idx65 (x := .tmp 51) (y := .tmp 52) (B := b5) (o := off5) (n := n) (cap := c5) (j := i) rfl (by simp only [putE, e0, e1, Act.put, List.setIfInBounds_toArray, List.set_cons_zero, List.set_cons_succ]; rfl) (by simp only [putE, e0, e1, Act.put, List.setIfInBounds_toArray, List.set_cons_zero, List.set_cons_succ]; rfl) rfl hlt) rfl⟩⟩
                        · have h2 := h
                          have e2 : γ 2 = .pointer (some ⟨b5, off5 + i * 16, none⟩) := h2
                          refine ⟨_, rfl, Or.inl ⟨rfl, predRun_value (exec_load_midS (b := b5) (off := off5 + i * 16) (x := .tmp 53) (cs := kv .u8 sa) rfl (by simp only [putE, e2, Act.put, List.setIfInBounds_toArray, List.set_cons_zero, List.set_cons_succ]; rfl) hS.2.2.1.1 Tryd.underlying25 rfl (cellsL32 HSa.out.1)) rfl⟩⟩
                        · refine ⟨_, rfl, Or.inl ⟨rfl, predRun_value (v := .slice (some ⟨b6, off6, none⟩) m c6) (by simp only [putE]; first | rfl | (go_simp; done) | (go_simp; with_reducible rfl) | (go_simp; rfl)) rfl⟩⟩
                        · refine ⟨_, rfl, Or.inl ⟨rfl, predRun_value (v := .int .i64 k) (by simp only [putE]; first | rfl | (go_simp; done) | (go_simp; with_reducible rfl) | (go_simp; rfl)) rfl⟩⟩
                        · obtain ⟨h4, h5⟩ := h
                          have e4 : γ 4 = .slice (some ⟨b6, off6, none⟩) m c6 := h4
                          have e5 : γ 5 = .int .i64 k := h5
                          refine ⟨_, rfl, Or.inl ⟨rfl, predRun_value (exec_idx65 (x := .tmp 55) (y := .tmp 56) (B := b6) (o := off6) (n := m) (cap := c6) (j := k) rfl (by simp only [putE, e4, e5, Act.put, List.setIfInBounds_toArray, List.set_cons_zero, List.set_cons_succ]; rfl) (by simp only [putE, e4, e5, Act.put, List.setIfInBounds_toArray, List.set_cons_zero, List.set_cons_succ]; rfl) rfl hkt) rfl⟩⟩
                        · have h6 := h
                          have e6 : γ 6 = .pointer (some ⟨b6, off6 + k * 16, none⟩) := h6
                          refine ⟨_, rfl, Or.inl ⟨rfl, predRun_value (exec_load_midS (b := b6) (off := off6 + k * 16) (x := .tmp 57) (cs := kv .u8 sb) rfl (by simp only [putE, e6, Act.put, List.setIfInBounds_toArray, List.set_cons_zero, List.set_cons_succ]; rfl) hS.2.2.2.1.1 Tryd.underlying25 rfl (cellsL32 HSb.out.1)) rfl⟩⟩
                        · obtain ⟨h3, h7⟩ := h
                          have e3 : γ 3 = dgV sa := h3
                          have e7 : γ 7 = dgV sb := h7
                          refine ⟨_, rfl, Or.inl ⟨rfl, predRun_value (v := .bool true) (by simp only [putE, e3, e7]; have hq := HEQ.out; have hg := eqg32; first | rfl | (go_simp; done) | (go_simp; with_reducible rfl) | (go_simp; rfl)) rfl⟩⟩
                        · have h8 := h
                          have e8 : γ 8 = .bool true := h8
                          refine ⟨_, rfl, Or.inl ⟨rfl, predRun_value (v := .bool true) (by simp only [putE, e8]; first | rfl | (go_simp; done) | (go_simp; with_reducible rfl) | (go_simp; rfl)) rfl⟩⟩
                        · have h9 := h
                          have e9 : γ 9 = .bool true := h9
                          refine ⟨_, rfl, Or.inl ⟨(by simp only [putE, e9]; rfl), predRun_value (v := .slice (some ⟨b, off, none⟩) n c0) (by simp only [putE, e9]; first | rfl | (go_simp; done) | (go_simp; with_reducible rfl) | (go_simp; rfl)) rfl⟩⟩
                        · have h9 := h
                          have e9 : γ 9 = .bool true := h9
                          refine ⟨_, rfl, Or.inl ⟨(by simp only [putE, e9]; rfl), predRun_value (v := .int .i64 i) (by simp only [putE, e9]; first | rfl | (go_simp; done) | (go_simp; with_reducible rfl) | (go_simp; rfl)) rfl⟩⟩
                        · obtain ⟨h9, h10, h11⟩ := h
                          have e9 : γ 9 = .bool true := h9
                          have e10 : γ 10 = .slice (some ⟨b, off, none⟩) n c0 := h10
                          have e11 : γ 11 = .int .i64 i := h11
                          refine ⟨_, rfl, Or.inl ⟨(by simp only [putE, e9, e10, e11]; rfl), predRun_value (exec_idx31 (x := .tmp 61) (y := .tmp 62) (B := b) (o := off) (n := n) (cap := c0) (j := i) rfl (by simp only [putE, e9, e10, e11, Act.put, List.setIfInBounds_toArray, List.set_cons_zero, List.set_cons_succ]; rfl) (by simp only [putE, e9, e10, e11, Act.put, List.setIfInBounds_toArray, List.set_cons_zero, List.set_cons_succ]; rfl) rfl hlt) rfl⟩⟩
                        · obtain ⟨h9, h12⟩ := h
                          have e9 : γ 9 = .bool true := h9
                          have e12 : γ 12 = .pointer (some ⟨b, off + i, none⟩) := h12
                          refine ⟨_, rfl, Or.inl ⟨(by simp only [putE, e9, e12]; rfl), predRun_value (v := .slice x1 y1 z1) (by simp only [putE, e9, e12]; have hx := hS.1.1; go_simp) rfl⟩⟩
                        · obtain ⟨h9, h13⟩ := h
                          have e9 : γ 9 = .bool true := h9
                          have e13 : γ 13 = .slice x1 y1 z1 := h13
                          refine ⟨_, rfl, Or.inl ⟨(by simp only [putE, e9, e13]; rfl), predRun_value (v := .string (strOfNums ta)) (by simp only [putE, e9, e13]; have ht := hS.2.2.2.2.1.text; first | rfl | (go_simp; done) | (go_simp; with_reducible rfl) | (go_simp; rfl)) rfl⟩⟩
                        · have h9 := h
                          have e9 : γ 9 = .bool true := h9
                          refine ⟨_, rfl, Or.inl ⟨(by simp only [putE, e9]; rfl), predRun_value (v := .slice (some ⟨b', off', none⟩) m c1) (by simp only [putE, e9]; first | rfl | (go_simp; done) | (go_simp; with_reducible rfl) | (go_simp; rfl)) rfl⟩⟩
                        · have h9 := h
                          have e9 : γ 9 = .bool true := h9
                          refine ⟨_, rfl, Or.inl ⟨(by simp only [putE, e9]; rfl), predRun_value (v := .int .i64 k) (by simp only [putE, e9]; first | rfl | (go_simp; done) | (go_simp; with_reducible rfl) | (go_simp; rfl)) rfl⟩⟩
                        · obtain ⟨h9, h15, h16⟩ := h
                          have e9 : γ 9 = .bool true := h9
                          have e15 : γ 15 = .slice (some ⟨b', off', none⟩) m c1 := h15
                          have e16 : γ 16 = .int .i64 k := h16
                          refine ⟨_, rfl, Or.inl ⟨(by simp only [putE, e9, e15, e16]; rfl), predRun_value (exec_idx31 (x := .tmp 66) (y := .tmp 67) (B := b') (o := off') (n := m) (cap := c1) (j := k) rfl (by simp only [putE, e9, e15, e16, Act.put, List.setIfInBounds_toArray, List.set_cons_zero, List.set_cons_succ]; rfl) (by simp only [putE, e9, e15, e16, Act.put, List.setIfInBounds_toArray, List.set_cons_zero, List.set_cons_succ]; rfl) rfl hkt) rfl⟩⟩
                        · obtain ⟨h9, h17⟩ := h
                          have e9 : γ 9 = .bool true := h9
                          have e17 : γ 17 = .pointer (some ⟨b', off' + k, none⟩) := h17
                          refine ⟨_, rfl, Or.inl ⟨(by simp only [putE, e9, e17]; rfl), predRun_value (v := .slice x2 y2 z2) (by simp only [putE, e9, e17]; have hx := hS.2.1.1; go_simp) rfl⟩⟩
                        · obtain ⟨h9, h18⟩ := h
                          have e9 : γ 9 = .bool true := h9
                          have e18 : γ 18 = .slice x2 y2 z2 := h18
                          refine ⟨_, rfl, Or.inl ⟨(by simp only [putE, e9, e18]; rfl), predRun_value (v := .string (strOfNums tb)) (by simp only [putE, e9, e18]; have ht := hS.2.2.2.2.2.1.text; first | rfl | (go_simp; done) | (go_simp; with_reducible rfl) | (go_simp; rfl)) rfl⟩⟩
                        · obtain ⟨h9, h14, h19⟩ := h
                          have e9 : γ 9 = .bool true := h9
                          have e14 : γ 14 = .string (strOfNums ta) := h14
                          have e19 : γ 19 = .string (strOfNums tb) := h19
                          refine ⟨_, rfl, Or.inl ⟨(by simp only [putE, e9, e14, e19]; rfl), predRun_value (v := .bool (!((strOfNums ta).toList == (strOfNums tb).toList))) (by simp only [putE, e9, e14, e19]; generalize strOfNums ta = s0; generalize strOfNums tb = s1; first | (go_simp; done) | (go_simp; rfl)) ?_⟩⟩
                          exact congrArg Value.bool HTX2.out
                        · obtain ⟨h9, h20⟩ := h
                          have e9 : γ 9 = .bool true := h9
                          have e20 : γ 20 = .bool true := h20
                          refine ⟨_, rfl, Or.inl ⟨rfl, predRun_value (v := .bool true) (by simp only [putE, e9, e20]; first | rfl | (go_simp; done) | (go_simp; with_reducible rfl) | (go_simp; rfl)) rfl⟩⟩
                      · intro γ w9 hS h
                        have e21 : γ 21 = .bool true := h.2.2.2.2.2.2.2.2.2.2.2.2.2.2.2.2.2.2.2.2.2
                        simp only [putE, Act.put, List.setIfInBounds_toArray, List.set_cons_zero, List.set_cons_succ]
                        rw [e21]
                        have HB9 := Kp.mk hS.2.2.2.2.2.2
                        clear h hS e21 QA QB Q5 Q6 QT QU HB HKs
                        refine wpOps_done ?_
                        go_wp2_with fail
                        go_ret
                        exact ⟨true, rfl, ⟨fun _ => HYes.out, fun _ => rfl⟩, HW2.out.trans (HB9.out.1.mono (by have := HWs.out; rw [HK2.out]; exact this))⟩
                  · have HEQ : Kp (∀ w, (binOp .eql 25 (dgV sa) (dgV sb)).run Tryd.prog w = .ok (.bool false) w) := ⟨fun w => by rw [HEQ0.out w, decide_eq_false hst]⟩
                    have HNo : Kp (¬ (shortL (us.getD i []) = shortL (bs.getD k []) ∧ us.getD i [] ≠ bs.getD k [])) := ⟨fun h => hst (HIK.out.1 h).1⟩
                    clear hst HEQ0
                    refine wp_region_pred (fun w' => (w'.cell? ⟨b, off + i, none⟩ = some (.slice x1 y1 z1) ∧ b < w'.heap.size) ∧ (w'.cell? ⟨b', off' + k, none⟩ = some (.slice x2 y2 z2) ∧ b' < w'.heap.size) ∧ (w'.rangeAt b5 (off5 + i * 16) (kv .u8 sa) ∧ b5 < w'.heap.size) ∧ (w'.rangeAt b6 (off6 + k * 16) (kv .u8 sb) ∧ b6 < w'.heap.size) ∧ HoldsB w' w'.heap.size (.slice x1 y1 z1) ta ∧ HoldsB w' w'.heap.size (.slice x2 y2 z2) tb ∧ (Below K2 W2 w' ∧ K2 ≤ w'.heap.size)) [0, 1, 2, 3, 4, 5, 6, 7, 8, 9, 10, 11, 12, 13, 14, 15, 16, 17, 18, 19, 20, 21] []
                      (fun ι w' v => match ι with
                        | 0 => v = .slice (some ⟨b5, off5, none⟩) n c5
                        | 1 => v = .int .i64 i
                        | 2 => v = .pointer (some ⟨b5, off5 + i * 16, none⟩)
                        | 3 => v = dgV sa
                        | 4 => v = .slice (some ⟨b6, off6, none⟩) m c6
                        | 5 => v = .int .i64 k
                        | 6 => v = .pointer (some ⟨b6, off6 + k * 16, none⟩)
                        | 7 => v = dgV sb
                        | 8 | 9 | 21 => v = .bool false
                        | 10 | 11 | 12 | 13 | 14 | 15 | 16 | 17 | 18 | 19 | 20 => v = undef
                        | _ => v = .bool true)
                      [[], [], [(0, some 51), (1, some 52)], [(2, some 53)], [], [], [(4, some 55), (5, some 56)], [(6, some 57)], [(3, some 54), (7, some 58)], [(8, some 59)], [(9, some 60)], [(9, some 60)], [(9, some 60), (10, some 61), (11, some 62)], [(9, some 60), (12, some 63)], [(9, some 60), (13, some 64)], [(9, some 60)], [(9, some 60)], [(9, some 60), (15, some 66), (16, some 67)], [(9, some 60), (17, some 68)], [(9, some 60), (18, some 69)], [(9, some 60), (14, some 65), (19, some 70)], [(9, some 60), (20, some 71)]]
                      [(0, some 51), (1, some 52), (2, some 53), (3, some 54), (4, some 55), (5, some 56), (6, some 57), (7, some 58), (8, some 59), (9, some 60), (10, some 61), (11, some 62), (12, some 63), (13, some 64), (14, some 65), (15, some 66), (16, some 67), (17, some 68), (18, some 69), (19, some 70), (20, some 71), (21, some 72)]
                      (by kernel_rfl) (by kernel_rfl) (by kernel_rfl) (by kernel_rfl) (by kernel_rfl) (by kernel_rfl) (by decide) (by decide) (fun w1 w2 h hb => ⟨⟨(hb.cell (p := ⟨b, off + i, none⟩) h.1.2).trans h.1.1, Nat.lt_of_lt_of_le h.1.2 hb.size⟩, ⟨(hb.cell (p := ⟨b', off' + k, none⟩) h.2.1.2).trans h.2.1.1, Nat.lt_of_lt_of_le h.2.1.2 hb.size⟩, ⟨fun j' v' hv' => (hb.cell (p := ⟨b5, off5 + i * 16 + j', none⟩) h.2.2.1.2).trans (h.2.2.1.1 j' v' hv'), Nat.lt_of_lt_of_le h.2.2.1.2 hb.size⟩, ⟨fun j' v' hv' => (hb.cell (p := ⟨b6, off6 + k * 16 + j', none⟩) h.2.2.2.1.2).trans (h.2.2.2.1.1 j' v' hv'), Nat.lt_of_lt_of_le h.2.2.2.1.2 hb.size⟩, (HoldsB.keep h.2.2.2.2.1 hb).mono hb.size, (HoldsB.keep h.2.2.2.2.2.1 hb).mono hb.size, ⟨h.2.2.2.2.2.2.1.trans (hb.mono h.2.2.2.2.2.2.2), Nat.le_trans h.2.2.2.2.2.2.2 hb.size⟩⟩) ?_ ⟨QA.out, QB.out, Q5.out, Q6.out, QT.out, QU.out, ⟨HB.out.drew, HKs.out⟩⟩ ?_ ?_
                    · intro ι w1 w2 v h hb
                      match ι, h with
                      | 0, h => exact h
                      | 1, h => exact h
                      | 2, h => exact h
                      | 3, h => exact h
                      | 4, h => exact h
                      | 5, h => exact h
                      | 6, h => exact h
                      | 7, h => exact h
                      | 8, h => exact h
                      | 9, h => exact h
                      | 10, h => exact h
                      | 11, h => exact h
                      | 12, h => exact h
                      | 13, h => exact h
                      | 14, h => exact h
                      | 15, h => exact h
                      | 16, h => exact h
                      | 17, h => exact h
                      | 18, h => exact h
                      | 19, h => exact h
                      | 20, h => exact h
                      | 21, h => exact h
                      | _ + 22, h => exact h
                    · refine ⟨fun γ wx hS h => ?_, fun γ wx hS h => ?_, fun γ wx hS h => ?_, fun γ wx hS h => ?_, fun γ wx hS h => ?_, fun γ wx hS h => ?_, fun γ wx hS h => ?_, fun γ wx hS h => ?_, fun γ wx hS h => ?_, fun γ wx hS h => ?_, fun γ wx hS h => ?_, fun γ wx hS h => ?_, fun γ wx hS h => ?_, fun γ wx hS h => ?_, fun γ wx hS h => ?_, fun γ wx hS h => ?_, fun γ wx hS h => ?_, fun γ wx hS h => ?_, fun γ wx hS h => ?_, fun γ wx hS h => ?_, fun γ wx hS h => ?_, fun γ wx hS h => ?_, trivial⟩
                      · refine ⟨_, rfl, Or.inl ⟨rfl, predRun_value (v := .slice (some ⟨b5, off5, none⟩) n c5) (by simp only [putE]; first | rfl | (go_simp; done) | (go_simp; with_reducible rfl) | (go_simp; rfl)) rfl⟩⟩
                      · refine ⟨_, rfl, Or.inl ⟨rfl, predRun_value (v := .int .i64 i) (by simp only [putE]; first | rfl | (go_simp; done) | (go_simp; with_reducible rfl) | (go_simp; rfl)) rfl⟩⟩
                      · obtain ⟨h0, h1⟩ := h
                        have e0 : γ 0 = .slice (some ⟨b5, off5, none⟩) n c5 := h0
                        have e1 : γ 1 = .int .i64 i := h1
                        refine ⟨_, rfl, Or.inl ⟨rfl, predRun_value (exec_idx65 (x := .tmp 51) (y := .tmp 52) (B := b5) (o := off5) (n := n) (cap := c5) (j := i) rfl (by simp only [putE, e0, e1, Act.put, List.setIfInBounds_toArray, List.set_cons_zero, List.set_cons_succ]; rfl) (by simp only [putE, e0, e1, Act.put, List.setIfInBounds_toArray, List.set_cons_zero, List.set_cons_succ]; rfl) rfl hlt) rfl⟩⟩
                      · have h2 := h
                        have e2 : γ 2 = .pointer (some ⟨b5, off5 + i * 16, none⟩) := h2
                        refine ⟨_, rfl, Or.inl ⟨rfl, predRun_value (exec_load_midS (b := b5) (off := off5 + i * 16) (x := .tmp 53) (cs := kv .u8 sa) rfl (by simp only [putE, e2, Act.put, List.setIfInBounds_toArray, List.set_cons_zero, List.set_cons_succ]; rfl) hS.2.2.1.1 Tryd.underlying25 rfl (cellsL32 HSa.out.1)) rfl⟩⟩
                      · refine ⟨_, rfl, Or.inl ⟨rfl, predRun_value (v := .slice (some ⟨b6, off6, none⟩) m c6) (by simp only [putE]; first | rfl | (go_simp; done) | (go_simp; with_reducible rfl) | (go_simp; rfl)) rfl⟩⟩
                      · refine ⟨_, rfl, Or.inl ⟨rfl, predRun_value (v := .int .i64 k) (by simp only [putE]; first | rfl | (go_simp; done) | (go_simp; with_reducible rfl) | (go_simp; rfl)) rfl⟩⟩
                      · obtain ⟨h4, h5⟩ := h
                        have e4 : γ 4 = .slice (some ⟨b6, off6, none⟩) m c6 := h4
                        have e5 : γ 5 = .int .i64 k := h5
                        refine ⟨_, rfl, Or.inl ⟨rfl, predRun_value (exec_idx65 (x := .tmp 55) (y := .tmp 56) (B := b6) (o := off6) (n := m) (cap := c6) (j := k) rfl (by simp only [putE, e4, e5, Act.put, List.setIfInBounds_toArray, List.set_cons_zero, List.set_cons_succ]; rfl) (by simp only [putE, e4, e5, Act.put, List.setIfInBounds_toArray, List.set_cons_zero, List.set_cons_succ]; rfl) rfl hkt) rfl⟩⟩
                      · have h6 := h
                        have e6 : γ 6 = .pointer (some ⟨b6, off6 + k * 16, none⟩) := h6
                        refine ⟨_, rfl, Or.inl ⟨rfl, predRun_value (exec_load_midS (b := b6) (off := off6 + k * 16) (x := .tmp 57) (cs := kv .u8 sb) rfl (by simp only [putE, e6, Act.put, List.setIfInBounds_toArray, List.set_cons_zero, List.set_cons_succ]; rfl) hS.2.2.2.1.1 Tryd.underlying25 rfl (cellsL32 HSb.out.1)) rfl⟩⟩
                      · obtain ⟨h3, h7⟩ := h
                        have e3 : γ 3 = dgV sa := h3
                        have e7 : γ 7 = dgV sb := h7
                        refine ⟨_, rfl, Or.inl ⟨rfl, predRun_value (v := .bool false) (by simp only [putE, e3, e7]; have hq := HEQ.out; have hg := eqg32; first | rfl | (go_simp; done) | (go_simp; with_reducible rfl) | (go_simp; rfl)) rfl⟩⟩
                      · have h8 := h
                        have e8 : γ 8 = .bool false := h8
                        refine ⟨_, rfl, Or.inl ⟨rfl, predRun_value (v := .bool false) (by simp only [putE, e8]; first | rfl | (go_simp; done) | (go_simp; with_reducible rfl) | (go_simp; rfl)) rfl⟩⟩
                      · have h9 := h
                        have e9 : γ 9 = .bool false := h9
                        refine ⟨_, rfl, Or.inr ⟨(by simp only [putE, e9]; rfl), rfl⟩⟩
                      · have h9 := h
                        have e9 : γ 9 = .bool false := h9
                        refine ⟨_, rfl, Or.inr ⟨(by simp only [putE, e9]; rfl), rfl⟩⟩
                      · obtain ⟨h9, h10, h11⟩ := h
                        have e9 : γ 9 = .bool false := h9
                        have e10 : γ 10 = undef := h10
                        have e11 : γ 11 = undef := h11
                        refine ⟨_, rfl, Or.inr ⟨(by simp only [putE, e9, e10, e11]; rfl), rfl⟩⟩
                      · obtain ⟨h9, h12⟩ := h
                        have e9 : γ 9 = .bool false := h9
                        have e12 : γ 12 = undef := h12
                        refine ⟨_, rfl, Or.inr ⟨(by simp only [putE, e9, e12]; rfl), rfl⟩⟩
                      · obtain ⟨h9, h13⟩ := h
                        have e9 : γ 9 = .bool false := h9
                        have e13 : γ 13 = undef := h13
                        refine ⟨_, rfl, Or.inr ⟨(by simp only [putE, e9, e13]; rfl), rfl⟩⟩
                      · have h9 := h
                        have e9 : γ 9 = .bool false := h9
                        refine ⟨_, rfl, Or.inr ⟨(by simp only [putE, e9]; rfl), rfl⟩⟩
                      · have h9 := h
                        have e9 : γ 9 = .bool false := h9
                        refine ⟨_, rfl, Or.inr ⟨(by simp only [putE, e9]; rfl), rfl⟩⟩
                      · obtain ⟨h9, h15, h16⟩ := h
                        have e9 : γ 9 = .bool false := h9
                        have e15 : γ 15 = undef := h15
                        have e16 : γ 16 = undef := h16
                        refine ⟨_, rfl, Or.inr ⟨(by simp only [putE, e9, e15, e16]; rfl), rfl⟩⟩
                      · obtain ⟨h9, h17⟩ := h
                        have e9 : γ 9 = .bool false := h9
                        have e17 : γ 17 = undef := h17
                        refine ⟨_, rfl, Or.inr ⟨(by simp only [putE, e9, e17]; rfl), rfl⟩⟩
                      · obtain ⟨h9, h18⟩ := h
                        have e9 : γ 9 = .bool false := h9
                        have e18 : γ 18 = undef := h18
                        refine ⟨_, rfl, Or.inr ⟨(by simp only [putE, e9, e18]; rfl), rfl⟩⟩
                      · obtain ⟨h9, h14, h19⟩ := h
                        have e9 : γ 9 = .bool false := h9
                        have e14 : γ 14 = undef := h14
                        have e19 : γ 19 = undef := h19
                        refine ⟨_, rfl, Or.inr ⟨(by simp only [putE, e9, e14, e19]; rfl), rfl⟩⟩
                      · obtain ⟨h9, h20⟩ := h
                        have e9 : γ 9 = .bool false := h9
                        have e20 : γ 20 = undef := h20
                        refine ⟨_, rfl, Or.inl ⟨rfl, predRun_value (v := .bool false) (by simp only [putE, e9, e20]; first | rfl | (go_simp; done) | (go_simp; with_reducible rfl) | (go_simp; rfl)) rfl⟩⟩
                    · intro γ w9 hS h
                      have e21 : γ 21 = .bool false := h.2.2.2.2.2.2.2.2.2.2.2.2.2.2.2.2.2.2.2.2.2
                      simp only [putE, Act.put, List.setIfInBounds_toArray, List.set_cons_zero, List.set_cons_succ]
                      rw [e21]
                      have HB9 := Kp.mk hS.2.2.2.2.2.2
                      clear h hS e21 QA QB Q5 Q6 QT QU HB HKs
                      refine wpOps_done ?_
                      go_wp2_with fail
                      exact ⟨⟨k + 1, by omega, by go_num, ⟨fun k' hk' => by
                        rcases Nat.lt_succ_iff_lt_or_eq.1 hk' with h | h
                        · exact HNk.out k' h
                        · subst h; exact HNo.out⟩, ⟨HB9.out.1⟩, ⟨HB9.out.2⟩⟩, by simp [intOf]; omega⟩
                · have hk' : m = k := by omega
                  subst hk'
                  go_wp2_with fail
                  exact ⟨⟨i + 1, by omega, by go_num, ⟨fun i' hi' => by
                    rcases Nat.lt_succ_iff_lt_or_eq.1 hi' with h | h
                    · exact HNi.out i' h
                    · subst h; exact HNk.out⟩, HB, HKs⟩, by simp [intOf]; omega⟩
            · have hi' : n = i := by omega
              subst hi'
              go_wp2_with fail
              go_ret
              exact ⟨false, rfl, ⟨(fun h => by cases h), fun h => by
                obtain ⟨i', k', h1, h2, h3⟩ := h
                exact absurd h3 (HNi.out i' (by rw [← HLus.out]; exact h1) k' (by rw [← HLbs.out]; exact h2))⟩, HW2.out.trans (HBo.out.mono (by have := HWs.out; rw [HK2.out]; exact this))⟩
end Go.Proofs.YtpljjmdkagbjpaaDoor
