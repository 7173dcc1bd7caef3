/-
  What Take answers; a new row of parts.
-/
import Derived.Test.YtioeaknhcfkfcaaPcG
namespace Go.Proofs.Ytioeaknhcfkfcaa
open Go.RowKit

def nextJ (J : PjM) (p : PV) : PjM := if (!J.began || decide (J.id < p.id)) = true then ⟨true, p.id, List.replicate p.many.toNat noPt⟩ else J
def takeR (J : PjM) (p : PV) (tp : List Int) (v : Value) : Int × Bool × List Int × PjM :=
  if lookE J p = 0 then
    if keepE (nextJ J p) p.at_.toNat tp = 0 then
      if haves (keepJ (nextJ J p) p.at_.toNat tp v).ps < (keepJ (nextJ J p) p.at_.toNat tp v).ps.length then (0, false, [], keepJ (nextJ J p) p.at_.toNat tp v)
      else (0, true, texts (keepJ (nextJ J p) p.at_.toNat tp v).ps, ⟨true, (keepJ (nextJ J p) p.at_.toNat tp v).id, []⟩)
    else (keepE (nextJ J p) p.at_.toNat tp, false, [], keepJ (nextJ J p) p.at_.toNat tp v)
  else (lookE J p, false, [], J)
def TakePost (g q : Nat) (J : PjM) (p : PV) (tp : List Int) (w : World) (r : Ending) (w' : World) : Prop :=
  ∃ q' v' u, r = .returned (.tuple #[u, .bool (takeR J p tp v').2.1, .int .i64 (takeR J p tp v').1]) ∧ JStep g q q' (takeR J p tp v').2.2.2 w w' ∧ HoldsB w' w'.heap.size u (takeR J p tp v').2.2.1 ∧ NewV w.heap.size v' ∧ NewV w.heap.size u
theorem pcells_zero (m : Nat) : pcells (List.replicate m noPt) = (List.replicate m [Value.bool false, .slice none 0 0]).flatten := by
  unfold pcells
  rw [List.map_replicate]
  rfl
theorem made94 (m : Nat) : madeCells #[.bool false, .slice none 0 0] (m * 2) = (pcells (List.replicate m noPt)).toArray := by
  apply Array.ext_getElem?
  intro j
  by_cases hj : j < m * 2
  · have hi : j / 2 < (List.replicate m noPt).length := by rw [List.length_replicate]; omega
    have e : (pcells (List.replicate m noPt)).toArray[j]? = some (if j % 2 = 0 then .bool false else .slice none 0 0) := by
      rw [List.getElem?_toArray]
      have h := pcells_at hi (j := j % 2) (u := if j % 2 = 0 then .bool false else .slice none 0 0) (by
        rw [List.getElem_replicate]
        rcases Nat.mod_two_eq_zero_or_one j with h | h <;> rw [h] <;> rfl)
      rw [show j / 2 * 2 + j % 2 = j by omega] at h
      exact h
    rw [e]
    simp [madeCells, hj]
    rcases Nat.mod_two_eq_zero_or_one j with h | h <;> simp [h]
  · rw [Array.getElem?_eq_none (by simp [madeCells]; omega), Array.getElem?_eq_none (by rw [List.size_toArray, pcells_len, List.length_replicate]; omega)]
end Go.Proofs.Ytioeaknhcfkfcaa
