/-
  A row of pieces.
-/
import Derived.Test.YtioeaknhcfkfcaaPcI
namespace Go.Proofs.Ytioeaknhcfkfcaa
open Go.RowKit

/-- A piece with its text. -/
structure PcV where
  id : Int
  at_ : Int
  many : Int
  v : Value
  l : List Int
def pcc (x : PcV) : List Value := [.int .u32 x.id, .int .i64 x.at_, .int .i64 x.many, x.v]
def rcells (l : List PcV) : List Value := (l.map pcc).flatten
theorem rcells_cons (x : PcV) (r : List PcV) : rcells (x :: r) = .int .u32 x.id :: .int .i64 x.at_ :: .int .i64 x.many :: x.v :: rcells r := rfl
theorem rcells_len (l : List PcV) : (rcells l).length = 4 * l.length := by
  induction l with
  | nil => rfl
  | cons x r ih => rw [rcells_cons]; simp only [List.length_cons]; omega
theorem rcells_at {l : List PcV} {i : Nat} (hi : i < l.length) {j : Nat} {u : Value} (hu : (pcc l[i])[j]? = some u) : (rcells l)[i * 4 + j]? = some u := by
  have hj : j < 4 := by
    have := (List.getElem?_eq_some_iff.1 hu).1
    simpa [pcc] using this
  have e : rcells l = rcells (l.take i) ++ (pcc l[i] ++ rcells (l.drop (i + 1))) := by
    unfold rcells
    conv => lhs; rw [← List.take_append_drop i l, List.map_append, List.flatten_append, List.drop_eq_getElem_cons hi, List.map_cons, List.flatten_cons]
  have hl : (rcells (l.take i)).length = i * 4 := by
    rw [rcells_len, List.length_take, Nat.min_eq_left (Nat.le_of_lt hi)]; omega
  rw [e, List.getElem?_append_right (by omega), hl, Nat.add_sub_cancel_left, List.getElem?_append_left (by have := (List.getElem?_eq_some_iff.1 hu).1; exact this)]
  exact hu
theorem rcells_set {l : List PcV} {i : Nat} (hi : i < l.length) (x : PcV) : ((((rcells l).set (i * 4) (.int .u32 x.id)).set (i * 4 + 1) (.int .i64 x.at_)).set (i * 4 + 2) (.int .i64 x.many)).set (i * 4 + 3) x.v = rcells (l.set i x) := by
  induction l generalizing i with
  | nil => simp at hi
  | cons y r ih =>
    cases i with
    | zero => simp [rcells_cons]
    | succ i =>
      have := ih (i := i) (by simpa using hi)
      rw [rcells_cons, show (i + 1) * 4 = i * 4 + 1 + 1 + 1 + 1 by omega]
      simp only [List.set_cons_succ, show i * 4 + 1 + 1 + 1 + 1 + 1 = i * 4 + 1 + 1 + 1 + 1 + 1 from rfl]
      rw [rcells_cons, ← this]
def noPc : PcV := ⟨0, 0, 0, .slice none 0 0, []⟩
theorem info30z : (Try.prog.info? 103).map (fun i => (i.zero, i.size, i.bytes)) = some (some (.agg #[.int .u32 0, .int .i64 0, .int .i64 0, .slice none 0 0]), 4, 48) := by kernel_rfl
theorem made30 (m : Nat) : madeCells #[.int .u32 0, .int .i64 0, .int .i64 0, .slice none 0 0] (m * 4) = (rcells (List.replicate m noPc)).toArray := by
  apply Array.ext_getElem?
  intro j
  have h4 : j % 4 = 0 ∨ j % 4 = 1 ∨ j % 4 = 2 ∨ j % 4 = 3 := by omega
  by_cases hj : j < m * 4
  · have hi : j / 4 < (List.replicate m noPc).length := by rw [List.length_replicate]; omega
    have e : (rcells (List.replicate m noPc)).toArray[j]? = some (if j % 4 = 0 then .int .u32 0 else if j % 4 = 3 then .slice none 0 0 else .int .i64 0) := by
      rw [List.getElem?_toArray]
      have h := rcells_at hi (j := j % 4) (u := if j % 4 = 0 then .int .u32 0 else if j % 4 = 3 then .slice none 0 0 else .int .i64 0) (by
        rw [List.getElem_replicate]
        rcases h4 with h | h | h | h <;> rw [h] <;> rfl)
      rw [show j / 4 * 4 + j % 4 = j by omega] at h
      exact h
    rw [e]
    simp [madeCells, hj]
    rcases h4 with h | h | h | h <;> simp [h]
  · rw [Array.getElem?_eq_none (by simp [madeCells]; omega), Array.getElem?_eq_none (by rw [List.size_toArray, rcells_len, List.length_replicate]; omega)]
theorem make30 (m : Nat) (hm : m ≤ 32) (w : World) : (Instr.makeSlice 99 (.int .i64 m) (.int .i64 m)).run Try.prog w = .ok (.slice (some ⟨w.heap.size, 0, none⟩) m m) (w.alloc (.cells (rcells (List.replicate m noPc)).toArray 103)) := by
  obtain ⟨i0, hi, hz0, hz1, hz2⟩ := info_parts info30z
  have h := run_make (P := Try.prog) w 99 103 i0 _ Try.underlying99 hi hz0 .i64 .i64 m m (by omega) (Int.le_refl _) (by rw [hz2]; omega) (by omega)
  rw [h, ← made30, hz1]
  simp [Value.cells, Int.toNat_natCast]
/-- A row of pieces in block q. -/
structure PRow (w : World) (q : Nat) (l : List PcV) : Prop where
  r : Blk w q (.cells (rcells l).toArray 103)
  t : ∀ x ∈ l, HoldsB w w.heap.size x.v x.l
theorem PRow.keep {w w' : World} {q : Nat} {l : List PcV} (h : PRow w q l) (hb : Below w.heap.size w w') : PRow w' q l := ⟨h.r.keep hb, fun x hx => (h.t x hx).grow hb⟩
theorem PRow.at {w : World} {q : Nat} {l : List PcV} (h : PRow w q l) {i : Nat} (hi : i < l.length) : w.rangeAt q (i * 4) (pcc l[i]) := fun j u hu => by
  have h7 := rcells_at hi hu
  rw [cell_of_row w q (i * 4 + j) _ 103 (0, 0) h.r]
  rw [List.getElem?_toArray]
  exact h7
theorem rcells_no {l : List PcV} (h : ∀ x ∈ l, ∃ a n c, x.v = .slice a n c) : ∀ (i : Nat) (z : Int), (rcells l).toArray[i]? ≠ some (.int .u8 z) := by
  intro i z
  rw [List.getElem?_toArray]
  intro e
  have hm := List.mem_of_getElem? e
  unfold rcells at hm
  obtain ⟨c, hl, hz⟩ := List.mem_flatten.1 hm
  obtain ⟨x, hx, rfl⟩ := List.mem_map.1 hl
  obtain ⟨a, n, c, hv⟩ := h x hx
  unfold pcc at hz
  rw [hv] at hz
  simp at hz
theorem PRow.put {w w' : World} {q i : Nat} {l : List PcV} (h : PRow w q l) (x : PcV) (ht : Turn q (.cells (rcells (l.set i x)).toArray 103) w w') (hx : HoldsB w w.heap.size x.v x.l) : PRow w' q (l.set i x) := by
  have hno := rcells_no fun x hx => by
    obtain ⟨a, n, c, e, _⟩ := (h.t x hx).slice
    exact ⟨a, n, c, e⟩
  have hone : ∀ y : PcV, HoldsB w w.heap.size y.v y.l → HoldsB w' w'.heap.size y.v y.l := fun y hy => (hy.beside h.r hno ht.size fun k hk hne => ht.other k hk hne).mono ht.size
  refine ⟨ht.blk, fun y hy => ?_⟩
  rcases List.mem_or_eq_of_mem_set hy with hy | rfl
  · exact hone y (h.t y hy)
  · exact hone y hx
theorem turn_piece {w : World} {q i : Nat} {l : List PcV} (hi : i < l.length) (hb : Blk w q (.cells (rcells l).toArray 103)) (x : PcV) : Turn q (.cells (rcells (l.set i x)).toArray 103) w (w.setCells q (i * 4) [.int .u32 x.id, .int .i64 x.at_, .int .i64 x.many, x.v]) := by
  have h := ((((Turn.same hb).set (i * 4) (.int .u32 x.id)).set (i * 4 + 1) (.int .i64 x.at_)).set (i * 4 + 2) (.int .i64 x.many)).set (i * 4 + 3) x.v
  rw [← rcells_set hi]
  rw [List.setIfInBounds_toArray, List.setIfInBounds_toArray, List.setIfInBounds_toArray, List.setIfInBounds_toArray] at h
  exact h
end Go.Proofs.Ytioeaknhcfkfcaa
