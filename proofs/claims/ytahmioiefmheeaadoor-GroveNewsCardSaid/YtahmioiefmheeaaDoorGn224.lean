/-
  Rows of short sums: the front of one, where one lies.
-/
import Derived.Test.YtahmioiefmheeaaDoorGf23
namespace Go.Proofs.YtahmioiefmheeaaDoor
open Go.RowKit

theorem HoldsS.front {w : World} {a : Option Addr} {n cap : Nat} {l : List Int} (h : HoldsS w (.slice a n cap) n l) {k : Nat} (hk : k ≤ n) : HoldsS w (.slice a k cap) k (l.take (k * 16)) := by
  obtain ⟨a', c', e, h1, h2, h3, h4⟩ := h
  simp only [Value.slice.injEq] at e
  obtain ⟨rfl, -, rfl⟩ := e
  refine ⟨a, cap, rfl, by rw [List.length_take]; omega, by omega, h3.take _, fun h0 => ?_⟩
  obtain ⟨b, off, ha, hlt, hc⟩ := h4 (by omega)
  refine ⟨b, off, ha, hlt, fun j hj => ?_⟩
  rw [hc j (by omega), List.getD_eq_getElem?_getD, List.getD_eq_getElem?_getD, List.getElem?_take, if_pos hj]
theorem HoldsS.lt {w : World} {a : Option Addr} {n c : Nat} {l : List Int} (h : HoldsS w (.slice a n c) n l) (h0 : 0 < n) : ∀ x, a = some x → x.block < w.heap.size := fun x hx => by
  obtain ⟨a', c', e, h1, h2, h3, h4⟩ := h
  obtain ⟨b, off, ha, hlt, hc⟩ := h4 h0
  simp only [Value.slice.injEq] at e
  obtain ⟨rfl, -⟩ := e
  rw [hx] at ha
  cases ha
  exact hlt
theorem HoldsS.off2 {w : World} {a : Option Addr} {n c : Nat} {l : List Int} {g : Nat} (h : HoldsS w (.slice a n c) n l) (ho : 0 < n → Off g (.slice a n c)) (cs : Array Value) : HoldsS (w.setRow g cs) (.slice a n c) n l := by
  by_cases h0 : 0 < n
  · exact h.off (ho h0) cs
  · obtain ⟨a', c', e, h1, h2, h3, h4⟩ := h
    exact ⟨a', c', e, h1, h2, h3, fun h => absurd h h0⟩

end Go.Proofs.YtahmioiefmheeaaDoor
