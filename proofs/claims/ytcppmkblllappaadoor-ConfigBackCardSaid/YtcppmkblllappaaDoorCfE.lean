/-
  What the lines of a text tell: the model, and the state in memory.
-/
import Derived.Test.YtcppmkblllappaaDoorCfD
import Derived.Maps.OwnSet
import Derived.Maps.Views
import Derived.Lib.Split
import Derived.Lib.SplitLaws
import Derived.StringKeys
namespace Go.Proofs.YtcppmkblllappaaDoor
open Go.RowKit Go.Maps

/-- The number of a name, from i on; 15: there is none. -/
def ixR (x : ByteArray) : Nat → Nat → Nat
  | 0, _ => 15
  | n + 1, i => if ((nmA i).toList == x.toList) = true then i else ixR x n (i + 1)
def ixN (x : ByteArray) : Nat := ixR x 15 0
theorem ixR_step (x : ByteArray) {i : Nat} (h : i < 15) : ixR x (15 - i) i = if ((nmA i).toList == x.toList) = true then i else ixR x (15 - (i + 1)) (i + 1) := by
  rw [show 15 - i = (15 - (i + 1)) + 1 by omega]
  rfl
theorem ixR_spec (x : ByteArray) : ∀ n i, i + n = 15 → ixR x n i ≤ 15 ∧ (ixR x n i < 15 → ((nmA (ixR x n i)).toList == x.toList) = true) := by
  intro n
  induction n with
  | zero => intro i h; exact ⟨Nat.le_refl _, fun h => absurd h (Nat.lt_irrefl _)⟩
  | succ n ih =>
    intro i h
    unfold ixR
    split
    · rename_i hc; exact ⟨by omega, fun _ => hc⟩
    · exact ih (i + 1) (by omega)
theorem byte_ext {x y : ByteArray} (h : x.data.toList = y.data.toList) : x = y := by
  obtain ⟨⟨l⟩⟩ := x
  obtain ⟨⟨m⟩⟩ := y
  simp at h
  rw [h]
theorem eq_of_test {x y : ByteArray} (h : (x.toList == y.toList) = true) : x = y := by
  rw [str_eq] at h
  exact byte_ext (of_decide_eq_true h)
theorem ixN_name {x : ByteArray} (h : ixN x < 15) : nmA (ixN x) = x := eq_of_test ((ixR_spec x 15 0 rfl).2 h)
/-- Where a name stands, of what stands by numbers. -/
def stN (st : Nat → Int) (x : ByteArray) : Int := if ixN x < 15 then st (ixN x) else 0
structure PS where
  (f st : Nat → Int)
def skipB (l : ByteArray) : Bool := match l.data.toList with
  | [] => true
  | c :: _ => c == 35
def cutN (l : ByteArray) : ByteArray := ⟨(Lib.cut l.data.toList [32]).1.toArray⟩
def cutV (l : ByteArray) : ByteArray := ⟨(Lib.cut l.data.toList [32]).2.1.toArray⟩
def stepP (at_ : Nat) (l : ByteArray) (p : PS) : Option (ByteArray × Int) × PS :=
  if skipB l = true then (none, p)
  else match numV (cutV l) with
    | none => (some (cutN l, 10), p)
    | some v => if 0 < stN p.st (cutN l) then (some (cutN l, 7), p)
      else if ixN (cutN l) < 15 then (none, ⟨upd p.f (ixN (cutN l)) v, upd p.st (ixN (cutN l)) (at_ + 1 : Nat)⟩)
      else (some (cutN l, 6), p)
def runP : List ByteArray → Nat → PS → Option (Int × ByteArray × Int) × PS
  | [], _, p => (none, p)
  | l :: r, at_, p => match stepP at_ l p with
    | (some (x, e), q) => (some ((at_ + 1 : Nat), x, e), q)
    | (none, q) => runP r (at_ + 1) q
def nl : ByteArray := ⟨#[10]⟩
def lines (s : ByteArray) : List ByteArray := Lib.splitB nl 0 (Lib.countB s nl) s
def outP : Option (Int × ByteArray × Int) × PS → (Nat → Int) × Int × ByteArray × Int
  | (some (n, x, e), _) => (r0, n, x, e)
  | (none, p) => if ck p.f = 15 then (p.f, 0, ⟨#[]⟩, 0) else (r0, stN p.st (nmA (ck p.f)), nmA (ck p.f), 30)
def parseV (s : ByteArray) : (Nat → Int) × Int × ByteArray × Int :=
  if 4096 < s.size then (r0, 0, ⟨#[]⟩, 8) else outP (runP (lines s) 0 ⟨dF, r0⟩)
theorem split_size (sep : ByteArray) : ∀ (k : Nat) (s : ByteArray) (x : ByteArray), x ∈ Lib.splitB sep 0 k s → x.size ≤ s.size := by
  intro k
  induction k with
  | zero => intro s x h; simp [Lib.splitB] at h; subst h; exact Nat.le_refl _
  | succ k ih =>
    intro s x h
    unfold Lib.splitB at h
    split at h
    · simp at h; subst h; exact Nat.le_refl _
    · rcases List.mem_cons.1 h with h | h
      · subst h; simp [ByteArray.size_extract]; omega
      · refine Nat.le_trans (ih _ _ h) ?_
        simp [ByteArray.size_extract]
theorem lines_size {s x : ByteArray} (h : x ∈ lines s) : x.size ≤ s.size := split_size nl _ s x h
theorem lines_len (s : ByteArray) : (lines s).length = Lib.countB s nl + 1 := Lib.splitB_all nl (by decide) 0 _ s rfl
theorem cut_size (l : ByteArray) : (cutN l).size ≤ l.size ∧ (cutV l).size ≤ l.size := by
  have h1 : (cutN l).size = (Lib.cut l.data.toList [32]).1.length := by show (Lib.cut l.data.toList [32]).1.toArray.size = _; simp
  have h2 : (cutV l).size = (Lib.cut l.data.toList [32]).2.1.length := by show (Lib.cut l.data.toList [32]).2.1.toArray.size = _; simp
  have h3 : l.size = l.data.toList.length := by show l.data.size = _; simp
  rw [h1, h2, h3]
  unfold Lib.cut
  split <;> simp <;> omega
theorem law9 : Keyed Tryd.prog 9 := string_keyed Tryd.underlying9
theorem zero3 (w : World) : (zeroValue 3).run Tryd.prog w = .ok (.int .i64 0) w := by kernel_rfl
theorem key9 {x : ByteArray} (h : x.size ≤ maxLen) : keyOf Tryd.prog 9 (.string x) = some (.string x.data.toList) := WideMaps.keyOf_string_mk Tryd.underlying9 h
/-- The map in block M tells where names stand. -/
def MapS (w : World) (M n : Nat) (st : Nat → Int) : Prop :=
  ∃ D : DataW Unit, w.ownsMap Tryd.prog 9 (plainElem Tryd.prog 3) M n D ∧ IsMap D ∧ ∀ x : ByteArray, x.size ≤ maxLen → D.atKey (.string x.data.toList) (.lit (.int .i64 0)) = .lit (.int .i64 (stN st x))
theorem MapS.block {w w' : World} {M n : Nat} {st : Nat → Int} (h : MapS w M n st) (hb : w'.heap[M]? = w.heap[M]?) : MapS w' M n st := by
  obtain ⟨D, ⟨es, clock, he, hr⟩, h2⟩ := h
  exact ⟨D, ⟨es, clock, hb.trans he, hr⟩, h2⟩
theorem MapS.lt {w : World} {M n : Nat} {st : Nat → Int} (h : MapS w M n st) : M < w.heap.size := by
  obtain ⟨D, ho, _⟩ := h
  exact ho.lt
theorem MapS.keep {w w' : World} {M n : Nat} {st : Nat → Int} (h : MapS w M n st) (hb : Below w.heap.size w w') : MapS w' M n st := h.block (hb.block M h.lt)
theorem MapS.made (w : World) : MapS (w.alloc (Obj.map #[] 0)) w.heap.size 0 r0 :=
  ⟨.map [], World.ownsMap_made _ _ _ _, isMap_empty, fun x _ => by unfold stN r0; rw [ite_self]; rfl⟩
theorem key_lit {x : ByteArray} (h : x.size ≤ maxLen) : WideAt.IsKeyLit (.string x.data.toList) := law9.key (key9 h)
theorem put_at {D : DataW Unit} {st : Nat → Int} {x : ByteArray} {v : Int} (hx : x.size ≤ maxLen) (hi : ixN x < 15) (hD : IsMap D)
    (hF : ∀ x : ByteArray, x.size ≤ maxLen → D.atKey (.string x.data.toList) (.lit (.int .i64 0)) = .lit (.int .i64 (stN st x))) :
    ∀ y : ByteArray, y.size ≤ maxLen → (D.put (.string x.data.toList) (.lit (.int .i64 v))).atKey (.string y.data.toList) (.lit (.int .i64 0)) = .lit (.int .i64 (stN (upd st (ixN x) v) y)) := by
  intro y hy
  by_cases e : y = x
  · subst e
    rw [atKey_put_same hD (key_lit hx)]
    unfold stN upd
    rw [if_pos hi, if_pos rfl]
  · have hne : Lit.string y.data.toList ≠ Lit.string x.data.toList := fun h => e (byte_ext (by injection h))
    rw [atKey_put_other hne, hF y hy]
    unfold stN upd
    by_cases hj : ixN y < 15
    · rw [if_pos hj, if_pos hj, if_neg]
      intro h
      exact e ((ixN_name hj).symm.trans ((congrArg nmA h).trans (ixN_name hi)))
    · rw [if_neg hj, if_neg hj]
/-- The world of Parse: the results' blocks, the rules, their numbers, the lines, the map. -/
structure PM (w0 : World) (A G L Mp S n : Nat) (lns : List ByteArray) (f st : Nat → Int) (w : World) : Prop where
  a : Blk w A (.cells (rc r0).toArray 33)
  m : Blk w (A + 1) (.cells #[.int .i64 0, .string ⟨#[]⟩, .int .i64 0] 36)
  g : Blk w G (rObj f)
  l : Blk w L (nbObj G)
  s : Blk w S (.cells (lns.map .string).toArray 9)
  mp : MapS w Mp n st
  hb : Below w0.heap.size w0 w
/-- The blocks are apart. -/
structure PN (w0 : World) (A G L Mp S : Nat) : Prop where
  A0 : A = w0.heap.size
  AG : A + 1 < G
  GL : G < L
  LM : L < Mp
  MS : Mp < S
theorem PM.keep {w0 w w' : World} {A G L Mp S n : Nat} {lns : List ByteArray} {f st : Nat → Int} (h : PM w0 A G L Mp S n lns f st w) (hb : Below w.heap.size w w') : PM w0 A G L Mp S n lns f st w' :=
  ⟨h.a.keep hb, h.m.keep hb, h.g.keep hb, h.l.keep hb, h.s.keep hb, h.mp.keep hb, h.hb.trans (hb.mono h.hb.size)⟩
theorem PM.alloc {w0 w : World} {A G L Mp S n : Nat} {lns : List ByteArray} {f st : Nat → Int} (h : PM w0 A G L Mp S n lns f st w) (o : Obj) : PM w0 A G L Mp S n lns f st (w.alloc o) := h.keep (more (Below.refl _ _) _)
theorem PM.set {w0 w : World} {A G L Mp S n : Nat} {lns : List ByteArray} {f st : Nat → Int} (h : PM w0 A G L Mp S n lns f st w) (hn : PN w0 A G L Mp S) (k : Nat) (v : Int) :
    PM w0 A G L Mp S n lns (upd f k v) st (w.setCell ⟨G, k, none⟩ (.int .i64 v)) := by
  have hh : ∀ b, b ≠ G → (w.setCell ⟨G, k, none⟩ (.int .i64 v)).heap[b]? = w.heap[b]? := fun b hb => Below.heap_setCell _ _ _ _ hb
  have := hn.A0; have := hn.AG; have := hn.GL; have := hn.LM; have := hn.MS
  refine ⟨(hh A (by omega)).trans h.a, (hh (A + 1) (by omega)).trans h.m, ?_, (hh L (by omega)).trans h.l, (hh S (by omega)).trans h.s, h.mp.block (hh Mp (by omega)), h.hb.setCell (p := ⟨G, k, none⟩) (by show w0.heap.size ≤ G; omega) _⟩
  have h2 := h.g.set k (.int .i64 v)
  rwa [show (rc f).toArray.setIfInBounds k (.int .i64 v) = (rc (upd f k v)).toArray by rw [List.setIfInBounds_toArray, rc_set]] at h2
theorem PM.put {w0 w w' : World} {A G L Mp S n : Nat} {lns : List ByteArray} {f st : Nat → Int} (h : PM w0 A G L Mp S n lns f st w) (hn : PN w0 A G L Mp S) {n' : Nat} {st' : Nat → Int}
    (hm : MapS w' Mp n' st') (hg : w.grownBy w' (some Mp)) : PM w0 A G L Mp S n' lns f st' w' := by
  have hh : ∀ b o, Blk w b o → b ≠ Mp → Blk w' b o := fun b o hb hne => (hg.block b hb.lt (by simpa using hne)).trans hb
  have := hn.A0; have := hn.AG; have := hn.GL; have := hn.LM; have := hn.MS
  exact ⟨hh _ _ h.a (by omega), hh _ _ h.m (by omega), hh _ _ h.g (by omega), hh _ _ h.l (by omega), hh _ _ h.s (by omega), hm, h.hb.grown hg h.hb.size (fun q e => by cases e; omega)⟩
theorem dF_ok : I64s dF := fun i => by
  by_cases h : i < 15
  · have : ∀ i : Fin 15, -9223372036854775808 ≤ us i ∧ us i ≤ 9223372036854775807 := by decide
    exact this ⟨i, h⟩
  · unfold dF us
    rw [List.getD_eq_getElem?_getD, List.getElem?_eq_none (by simpa [usB] using h)]
    decide
theorem numV_ok {s : ByteArray} {v : Int} (h : numV s = some v) : -9223372036854775808 ≤ v ∧ v ≤ 9223372036854775807 := by
  unfold numV at h
  split at h
  · rename_i u hu
    split at h
    · cases h; exact Lib.atoiAll_bounds hu
    · cases h
  · cases h
theorem first_byte {l : ByteArray} {c : UInt8} {r : List UInt8} (h : l.data.toList = c :: r) : ∀ w : World, (Instr.index 9 (.string l) (.int .i64 0)).run Tryd.prog w = .ok (.int .u8 (c.toNat : Int)) w := fun w => by
  have hl : l = ⟨(c :: r).toArray⟩ := byte_ext (by rw [h])
  subst hl
  rw [run_index_string w 9 _ .i64 0 (by kernel_rfl), dif_pos ⟨by omega, by simp [ByteArray.size]⟩]
  rfl
theorem lines_count (s : ByteArray) : Lib.countB s nl ≤ s.size := Lib.countB_le nl (by decide) s.size s (Nat.le_refl _)
end Go.Proofs.YtcppmkblllappaaDoor
