/-
  The law SlateNil, walked.
-/
import Derived.Test.YtgikedbnnlckjaaSlL
namespace Go.Proofs.Ytgikedbnnlckjaa
open Go.RowKit

set_option maxRecDepth 100000 in
set_option maxHeartbeats 1000000 in
theorem write_nil (a : Int) (z : List Int) (hz : z.length = 64) (w : World) : Calls Try.prog 16 #[.pointer none, .int .i64 a, sec z] w fun r w' => r = .returned (.int .i64 2) ∧ Below w.heap.size w w' := by
  have hC := fun (w : World) => box_row (t := 35) (cs := kv .u8 z) (cells35 hz) w
  have HB : Kp (Below w.heap.size w (w.alloc (.cells (kv .u8 z).toArray 35))) := ⟨more (Below.refl _ _) _⟩
  go_enter Try.func16, Try.ntmps16
  go_wp2_with (refine wpList_box_eq rfl 35 (.tmp 2) rfl _ rfl _ _ (hC _) ?_)
  refine (has_nil _ _).mono ?_
  rintro r w1 ⟨rfl, rfl⟩
  clear hC
  generalize (w.alloc (.cells (kv .u8 z).toArray 35)) = W at HB ⊢
  go_wp2_with fail
  go_ret
  exact ⟨rfl, HB.out⟩
theorem build35zG {o : Oper} {a : Act} {w : World} (ho : o.op = .build 35 #[]) : (execOp a.eval o).run Try.prog w = .ok (.value (sec z64)) w := exec_build35z ho
set_option maxRecDepth 100000 in
set_option maxHeartbeats 2000000 in
theorem slateNil_walk (x y : Int) (w : World) (_ : (Lit.int .i64 x).wf = true) (_ : (Lit.int .i64 y).wf = true) : Calls Try.prog 5 #[.int .i64 x, .int .i64 y] w fun e w' => e = .returned (.bool true) ∧ Below w.heap.size w w' := by
  go_enter Try.func5, Try.ntmps5
  go_wp2_with fail
  refine (read_nil _ _).mono ?_
  rintro r w1 ⟨rfl, hb1⟩
  have HB1 := Kp.mk hb1
  clear hb1
  go_wp2_with (first
    | (refine wpList_alloc_row rfl 35 rfl _ _ infoz64 ?_; refine wpl_world (fun w6 => Row w6 w1.heap.size 35 .u8 z64 ∧ Below w1.heap.size w1 w6) ⟨Blk.new _ _, more (Below.refl _ _) _⟩ ?_; rintro W6 ⟨h1, h2⟩; have K1 := Kp.mk h1; have K2 := Kp.mk h2; clear h1 h2)
    | (refine wpList_store_row rfl 35 (.tmp 6) (.tmp 12) rfl w1.heap.size (kv .u8 z64).toArray rfl rfl 35 _ K1.out (cells64 z64_len) rfl (kv_all _ _) ?_; refine wpl_world (fun w6 => Below w1.heap.size w1 w6) (Below.row K2.out (Nat.le_refl _) _) ?_; rintro W7 h2; have K4 := Kp.mk h2; clear h2))
  have HB7 : Kp (Below w.heap.size w W7) := ⟨HB1.out.trans (K4.out.mono HB1.out.size)⟩
  clear K1 K2 K4 HB1
  refine (awake_any _).mono ?_
  rintro r w8 ⟨rfl, hb8⟩
  have HB8 : Kp (Below w.heap.size w w8) := ⟨HB7.out.trans (hb8.mono HB7.out.size)⟩
  clear hb8 HB7
  go_wp2_with (refine wpList_valG (by kernel_rfl) (exec_build35z rfl) ?_)
  refine (write_nil _ z64 z64_len _).mono ?_
  rintro r w9 ⟨rfl, hb9⟩
  have HB9 : Kp (Below w.heap.size w w9) := ⟨HB8.out.trans (hb9.mono HB8.out.size)⟩
  clear hb9 HB8
  go_wp2_with fail
  refine (flush_nil _).mono ?_
  rintro r w2 ⟨rfl, rfl⟩
  go_wp2_with fail
  refine (fuse_nil _ _).mono ?_
  rintro r w2 ⟨rfl, rfl⟩
  go_wp2_with fail
  refine (crash_nil _ _ _).mono ?_
  rintro r w2 ⟨rfl, rfl⟩
  go_wp2_with fail
  refine (sectors_nil _).mono ?_
  rintro r w2 ⟨rfl, rfl⟩
  go_wp2_with fail
  refine (loose_nil _).mono ?_
  rintro r w2 ⟨rfl, rfl⟩
  go_wp2_with fail
  refine (steps_nil _).mono ?_
  rintro r w2 ⟨rfl, rfl⟩
  go_wp2_with fail
  refine (down_nil _).mono ?_
  rintro r w2 ⟨rfl, rfl⟩
  go_wp2_with fail
  go_ret
  exact ⟨rfl, HB9.out⟩
end Go.Proofs.Ytgikedbnnlckjaa
