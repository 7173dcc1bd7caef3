/-
  A joiner with its parts: how many bytes are there, how many pieces.
-/
import Derived.Test.YtioeaknhcfkfcaaPcB
namespace Go.Proofs.Ytioeaknhcfkfcaa
open Go.RowKit

/-- A part: whether it is there, its text as a value, its text. -/
structure PtV where
  there : Bool
  v : Value
  l : List Int
def ptc (x : PtV) : List Value := [.bool x.there, x.v]
def pcells (ps : List PtV) : List Value := (ps.map ptc).flatten
theorem pcells_len (ps : List PtV) : (pcells ps).length = 2 * ps.length := by
  induction ps with
  | nil => rfl
  | cons x r ih =>
    unfold pcells at *
    rw [List.map_cons, List.flatten_cons, List.length_append, ih]
    simp [ptc]
    omega
theorem pcells_at {ps : List PtV} {i : Nat} (hi : i < ps.length) {j : Nat} {u : Value} (hu : (ptc ps[i])[j]? = some u) : (pcells ps)[i * 2 + j]? = some u := by
  have hj : j < 2 := by
    have := (List.getElem?_eq_some_iff.1 hu).1
    simpa [ptc] using this
  have e : pcells ps = pcells (ps.take i) ++ (ptc ps[i] ++ pcells (ps.drop (i + 1))) := by
    unfold pcells
    conv => lhs; rw [← List.take_append_drop i ps, List.map_append, List.flatten_append, List.drop_eq_getElem_cons hi, List.map_cons, List.flatten_cons]
  have hl : (pcells (ps.take i)).length = i * 2 := by
    rw [pcells_len, List.length_take, Nat.min_eq_left (Nat.le_of_lt hi)]; omega
  rw [e, List.getElem?_append_right (by omega), hl, Nat.add_sub_cancel_left, List.getElem?_append_left (by have := (List.getElem?_eq_some_iff.1 hu).1; exact this)]
  exact hu
def pa (q n : Nat) : Option Addr := if n = 0 then none else some ⟨q, 0, none⟩
structure PjM where
  began : Bool
  id : Int
  ps : List PtV
/-- The joiner's object lies in block g, the row of its parts in block q. -/
structure JIs (w : World) (g q : Nat) (J : PjM) : Prop where
  b : Blk w g (jObj ⟨J.began, J.id, pa q J.ps.length, J.ps.length, J.ps.length⟩)
  r : 0 < J.ps.length → Blk w q (.cells (pcells J.ps).toArray 94)
  t : ∀ x ∈ J.ps, HoldsB w w.heap.size x.v x.l ∧ x.l.length ≤ 4096
  n : J.ps.length ≤ 32
  i : 0 ≤ J.id ∧ J.id ≤ 4294967295
theorem HoldsB.grow {w w' : World} {v : Value} {l : List Int} (h : HoldsB w w.heap.size v l) (hb : Below w.heap.size w w') : HoldsB w' w'.heap.size v l := (h.keep hb).mono hb.size
theorem JIs.keep {w w' : World} {g q : Nat} {J : PjM} (h : JIs w g q J) (hb : Below w.heap.size w w') : JIs w' g q J :=
  ⟨h.b.keep hb, fun h0 => (h.r h0).keep hb, fun x hx => ⟨(h.t x hx).1.grow hb, (h.t x hx).2⟩, h.n, h.i⟩
theorem JIs.at {w : World} {g q : Nat} {J : PjM} (h : JIs w g q J) {i : Nat} (hi : i < J.ps.length) : w.rangeAt q (i * 2) (ptc J.ps[i]) := fun j u hu => by
  have h7 := pcells_at hi hu
  rw [cell_of_row w q (i * 2 + j) _ 94 (0, 0) (h.r (by omega))]
  rw [List.getElem?_toArray]
  exact h7
theorem pa_some {q n : Nat} (h : 0 < n) : pa q n = some ⟨q, 0, none⟩ := by unfold pa; rw [if_neg (by omega)]
def lens (ps : List PtV) : Nat := (ps.map fun x => x.l.length).sum
theorem lens_succ {ps : List PtV} {i : Nat} (hi : i < ps.length) : lens (ps.take (i + 1)) = lens (ps.take i) + ps[i].l.length := by
  unfold lens
  rw [List.take_add_one, List.getElem?_eq_getElem hi]
  simp only [Option.toList, List.map_append, List.sum_append, List.map_cons, List.map_nil, List.sum_cons, List.sum_nil, Nat.add_zero]
def haves (ps : List PtV) : Nat := (ps.filter fun x => x.there).length
theorem haves_succ {ps : List PtV} {i : Nat} (hi : i < ps.length) : haves (ps.take (i + 1)) = haves (ps.take i) + (if ps[i].there then 1 else 0) := by
  unfold haves
  rw [List.take_add_one, List.getElem?_eq_getElem hi, List.filter_append, List.length_append]
  cases h : ps[i].there <;> simp [h]
theorem lens_le {ps : List PtV} (h : ∀ x ∈ ps, x.l.length ≤ 4096) : lens ps ≤ 4096 * ps.length := by
  induction ps with
  | nil => simp [lens]
  | cons x r ih =>
    have h1 := ih fun y hy => h y (List.mem_cons_of_mem _ hy)
    have h2 := h x (List.mem_cons_self ..)
    unfold lens at *
    simp only [List.map_cons, List.sum_cons, List.length_cons]
    omega
theorem haves_le (ps : List PtV) : haves ps ≤ ps.length := List.length_filter_le ..
end Go.Proofs.Ytioeaknhcfkfcaa
