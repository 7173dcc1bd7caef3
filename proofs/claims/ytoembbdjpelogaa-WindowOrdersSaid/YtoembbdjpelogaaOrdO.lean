/-
  How the slice of integers that comes in is opened for the walk of WindowOrders.
-/
import Derived.Test.YtoembbdjpelogaaOrd
import Derived.ProofKit
namespace Go.Proofs.Ytoembbdjpelogaa
open Go.ChangeShapes Go.WideShapes Go.ChangeAt Go.RowKit

theorem row_ints {H : Type} {enc : TypeId × Value → H} {W : World} {a : Option Addr} {len cap : Nat} {d : DataW H} {p : List MemPlace}
    (k : DataW.Trod enc Try.prog W 0 (fun _ => true) true 61 (.slice a len cap) d p) : ∃ zs, IsRow .i64 W a len zs := by
  obtain ⟨fuel, hf⟩ := k
  rcases open_ints Try.underlying61 Try.underlying3 (by kernel_rfl) hf with ⟨hcs, _⟩ | ⟨x, l, c, zs, hcs, _, hl, hm, hz, _, hcell, hwz⟩
  · simp [Value.cells] at hcs
    obtain ⟨rfl, rfl, rfl⟩ := hcs
    exact ⟨[], by unfold maxLen; omega, fun h => by omega⟩
  · simp [Value.cells] at hcs
    obtain ⟨rfl, rfl, rfl⟩ := hcs
    have hz' : zs.length = cap := by simpa using hz
    refine ⟨zs, by omega, fun h0 => ?_⟩
    obtain ⟨b, off, spot⟩ := x
    have h1 := hcell 0 (by omega)
    have hspot : spot = none := by simpa [Addr.add] using World.cell?_spot h1
    subst hspot
    refine ⟨b, off, rfl, World.block_lt_of_cell? W _ h1, fun i hi => ?_⟩
    rw [← add_plain]
    exact hcell i (by omega)
end Go.Proofs.Ytoembbdjpelogaa
