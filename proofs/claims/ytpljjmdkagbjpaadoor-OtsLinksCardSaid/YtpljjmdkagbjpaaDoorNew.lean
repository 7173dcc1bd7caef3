/-
  sha.New.
-/
import Derived.Test.YtpljjmdkagbjpaaDoorText
namespace Go.Proofs.YtpljjmdkagbjpaaDoor
open Go.RowKit

theorem new_cells : ((((((((Tryd.zeroCells145.setIfInBounds 0 (Value.int IntKind.u32 1779033703)).setIfInBounds 1 (Value.int IntKind.u32 3144134277)).setIfInBounds 2 (Value.int IntKind.u32 1013904242)).setIfInBounds
    3 (Value.int IntKind.u32 2773480762)).setIfInBounds 4 (Value.int IntKind.u32 1359893119)).setIfInBounds 5 (Value.int IntKind.u32 2600822924)).setIfInBounds 6 (Value.int IntKind.u32 528734635)).setIfInBounds 7 (Value.int IntKind.u32 1541459225)) =
    (hashCells first.list (List.replicate 64 0) 0).toArray := by kernel_rfl
theorem zeros_bytes (n : Nat) : Bytes (List.replicate n 0) := fun x hx => by
  have := List.eq_of_mem_replicate hx
  omega
set_option maxRecDepth 100000 in
set_option maxHeartbeats 400000 in
theorem new_any (w : World) : Calls Tryd.prog 67 #[] w fun r w' => r = .returned (.pointer (some ⟨w.heap.size, 0, none⟩)) ∧ HashIs w' w.heap.size [] ∧ Below w.heap.size w w' := by
  go_enter Tryd.func67, Tryd.ntmps67
  go_wp2_with fail
  go_ret
  rw [new_cells]
  exact ⟨rfl, ⟨List.replicate 64 0, by simp, zeros_bytes _, rfl, Blk.new _ _⟩, more (Below.refl _ _) _⟩
end Go.Proofs.YtpljjmdkagbjpaaDoor
