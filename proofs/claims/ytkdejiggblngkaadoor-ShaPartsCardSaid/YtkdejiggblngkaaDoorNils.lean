/-
  Calls on a sum that is nil.
-/
import Derived.Test.YtkdejiggblngkaaDoorAwake
import Derived.Test.YtkdejiggblngkaaDoorEq
namespace Go.Proofs.YtkdejiggblngkaaDoor
open Go.RowKit

set_option maxHeartbeats 400000 in
theorem write_nil (v : Value) (w : World) : Calls Tryd.prog 19 #[.pointer none, v] w fun r w' => r = .returned (.tuple #[]) ∧ w = w' := by
  go_enter Tryd.func19, Tryd.ntmps19
  go_wp2_with fail
  exact bodyPost_ret (v := .tuple #[]) (results_none rfl _ _ _) rfl ⟨rfl, rfl⟩
set_option maxHeartbeats 400000 in
theorem blocks_nil (w : World) : Calls Tryd.prog 21 #[.pointer none] w fun r w' => r = .returned (.int .i64 0) ∧ w' = w := by
  go_enter Tryd.func21, Tryd.ntmps21
  go_wp2_with fail
  go_ret
  exact ⟨rfl, rfl⟩
theorem eqz25 (w : World) : (Op.equalIn 10000 25 (.agg #[.int .u8 0, .int .u8 0, .int .u8 0, .int .u8 0, .int .u8 0, .int .u8 0, .int .u8 0, .int .u8 0, .int .u8 0, .int .u8 0, .int .u8 0, .int .u8 0, .int .u8 0, .int .u8 0, .int .u8 0, .int .u8 0, .int .u8 0, .int .u8 0, .int .u8 0, .int .u8 0, .int .u8 0, .int .u8 0, .int .u8 0, .int .u8 0, .int .u8 0, .int .u8 0, .int .u8 0, .int .u8 0, .int .u8 0, .int .u8 0, .int .u8 0, .int .u8 0]) (.agg #[.int .u8 0, .int .u8 0, .int .u8 0, .int .u8 0, .int .u8 0, .int .u8 0, .int .u8 0, .int .u8 0, .int .u8 0, .int .u8 0, .int .u8 0, .int .u8 0, .int .u8 0, .int .u8 0, .int .u8 0, .int .u8 0, .int .u8 0, .int .u8 0, .int .u8 0, .int .u8 0, .int .u8 0, .int .u8 0, .int .u8 0, .int .u8 0, .int .u8 0, .int .u8 0, .int .u8 0, .int .u8 0, .int .u8 0, .int .u8 0, .int .u8 0, .int .u8 0])).run Tryd.prog w = .ok true w :=
  eqIn25 (p := List.replicate 32 0) (zeros_bytes 32) rfl w
set_option maxRecDepth 100000 in
set_option maxHeartbeats 400000 in
theorem sum_nil (w : World) : Calls Tryd.prog 20 #[.pointer none] w fun r w' => r = .returned (dgV (List.replicate 32 0)) ∧ Below w.heap.size w w' := by
  have HC := Kp.mk (cells25 (l := List.replicate 32 0) rfl)
  have HS : Kp ((kv .u8 (fill 32 [])).toArray.size = (kv .u8 (List.replicate 32 0)).toArray.size) := ⟨by rw [kv_size, kv_size]; rfl⟩
  have HR : Kp (Row ((w.alloc z25).setRow w.heap.size (kv .u8 (List.replicate 32 0)).toArray) w.heap.size 25 .u8 (List.replicate 32 0)) := ⟨Row.setRow (k := .u8) (l := fill 32 []) (Blk.new w z25) _⟩
  go_enter Tryd.func20, Tryd.ntmps20
  go_wp2_with (refine wpList_store_row rfl 25 (.tmp 2) (.tmp 10) rfl w.heap.size (kv .u8 (List.replicate 32 0)).toArray rfl rfl 25 _ (Blk.new w z25) HC.out HS.out (kv_all _ _) ?_)
  refine bodyPost_ret (v := dgV (List.replicate 32 0)) ?_ rfl ⟨rfl, Below.row (more (Below.refl _ _) z25) (Nat.le_refl _) _⟩
  exact results_cell_row rfl _ _ w.heap.size 25 _ (0, 0) _ rfl HR.out Tryd.underlying25 rfl HC.out
end Go.Proofs.YtkdejiggblngkaaDoor
