/-
  The document's First and K.
-/
import Derived.Test.YtpljjmdkagbjpaaDoorRefP
namespace Go.Proofs.YtpljjmdkagbjpaaDoor
open Go.RowKit

abbrev z68b : Obj := .cells (kv .u32 (fill 8 [])).toArray 142
theorem cells68b {l : List Int} (h : l.length = 8) : (Tryd.prog.info? 142).map (·.size) = some (kv .u32 l).toArray.size := by
  have h1 : (Tryd.prog.info? 142).map (·.size) = some 8 := by kernel_rfl
  rw [h1, kv_size, h]
set_option maxRecDepth 100000 in
set_option maxHeartbeats 1000000 in
theorem first_any (w : World) : Calls Tryd.prog 91 #[] w fun r w' => r = .returned (.agg (kv .u32 first.list).toArray) ∧ Below w.heap.size w w' := by
  have HC := Kp.mk (cells68b (list_len first))
  have HS : Kp ((kv .u32 (fill 8 [])).toArray.size = (kv .u32 first.list).toArray.size) := ⟨by rw [kv_size, kv_size]; rfl⟩
  have HA : Kp ((kv .u32 first.list).toArray.all (·.oneCell') = true) := ⟨kv_all _ _⟩
  have HR : Kp (Row ((w.alloc z68b).setRow w.heap.size (kv .u32 first.list).toArray) w.heap.size 142 .u32 first.list) := ⟨Row.setRow (k := .u32) (l := fill 8 []) (Blk.new w z68b) _⟩
  go_enter Tryd.func91, Tryd.ntmps91
  go_wp2_with (refine wpList_store_row rfl 142 (.tmp 0) (.tmp 1) rfl w.heap.size (kv .u32 first.list).toArray rfl rfl 142 _ (Blk.new w z68b) HC.out HS.out HA.out ?_)
  refine bodyPost_ret (v := .agg (kv .u32 first.list).toArray) ?_ rfl ⟨rfl, Below.row (more (Below.refl _ _) z68b) (Nat.le_refl _) _⟩
  exact results_cell_row rfl _ _ w.heap.size 142 _ (0, 0) _ rfl HR.out Tryd.underlying142 rfl HC.out
set_option maxRecDepth 100000 in
set_option maxHeartbeats 1000000 in
theorem kon_any (w : World) : Calls Tryd.prog 92 #[] w fun r w' => r = .returned (.agg (kv .u32 kon).toArray) ∧ Below w.heap.size w w' := by
  have HC := Kp.mk (cells70 kon_len)
  have HS : Kp ((kv .u32 (fill 64 [])).toArray.size = (kv .u32 kon).toArray.size) := ⟨by rw [kv_size, kv_size, kon_len]; rfl⟩
  have HA : Kp ((kv .u32 kon).toArray.all (·.oneCell') = true) := ⟨kv_all _ _⟩
  have HR : Kp (Row ((w.alloc z70).setRow w.heap.size (kv .u32 kon).toArray) w.heap.size 147 .u32 kon) := ⟨Row.setRow (k := .u32) (l := fill 64 []) (Blk.new w z70) _⟩
  go_enter Tryd.func92, Tryd.ntmps92
  go_wp2_with (refine wpList_store_row rfl 147 (.tmp 0) (.tmp 1) rfl w.heap.size (kv .u32 kon).toArray rfl rfl 147 _ (Blk.new w z70) HC.out HS.out HA.out ?_)
  refine bodyPost_ret (v := .agg (kv .u32 kon).toArray) ?_ rfl ⟨rfl, Below.row (more (Below.refl _ _) z70) (Nat.le_refl _) _⟩
  exact results_cell_row rfl _ _ w.heap.size 147 _ (0, 0) _ rfl HR.out Tryd.underlying147 rfl HC.out
end Go.Proofs.YtpljjmdkagbjpaaDoor
