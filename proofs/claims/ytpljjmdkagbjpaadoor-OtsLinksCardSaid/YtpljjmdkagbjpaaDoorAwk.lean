/-
  The example of layer 10.
-/
import Derived.Test.YtpljjmdkagbjpaaDoorDig
namespace Go.Proofs.YtpljjmdkagbjpaaDoor
open Go.RowKit

theorem zeros16 : digA (List.replicate 16 0) 0 = 0 ∧ digA (List.replicate 16 0) 64 = 3 ∧ digA (List.replicate 16 0) 65 = 0 := by decide +kernel
set_option maxRecDepth 100000 in
set_option maxHeartbeats 4000000 in
theorem awake_any (w : World) : Calls Tryd.prog 8 #[] w fun r w' => r = .returned (.bool true) ∧ Below w.heap.size w w' := by
  go_enter Tryd.func8, Tryd.ntmps8
  go_wp2_with fail
  refine (digits_any (List.replicate 16 0) w (by simp) (by intro x hx; have := (List.mem_replicate.1 hx).2; omega)).mono ?_
  rintro r w1 ⟨rfl, hb⟩
  have HB := Kp.mk hb
  have h0 := digS_at (List.replicate 16 0) (c := 0) (by omega)
  have h1 := digS_at (List.replicate 16 0) (c := 64) (by omega)
  have h2 := digS_at (List.replicate 16 0) (c := 65) (by omega)
  rw [zeros16.1] at h0
  rw [zeros16.2.1] at h1
  rw [zeros16.2.2] at h2
  have hl := digS_len (List.replicate 16 0)
  generalize digS (List.replicate 16 0) = dl at *
  have HL := Kp.mk hl
  have H0 := Kp.mk (And.intro h0 (And.intro h1 h2))
  clear hb h0 h1 h2 hl
  have HC33 : Kp ((Tryd.prog.info? 51).map (·.size) = some (kv .u8 dl).toArray.size) := ⟨by rw [show (kv .u8 dl).toArray.size = 68 by simp [HL.out]]; exact size33⟩
  have HZ : Kp ((kv .u8 (List.replicate 68 0)).toArray.size = (kv .u8 dl).toArray.size) := ⟨by rw [kv_size, kv_size, HL.out]; simp⟩
  obtain ⟨B, hB⟩ : ∃ B, B = w1.heap.size := ⟨_, rfl⟩
  have HBe := Kp.mk hB
  go_wp2_with (first
    | (refine wpList_alloc_row rfl 51 rfl _ _ info33 ?_; rw [← hB]; clear hB; refine wpl_world (fun w2 => Row w2 B 51 .u8 (List.replicate 68 0) ∧ Below w.heap.size w w2) ⟨Blk.newAt _ HBe.out, HB.out.alloc HB.out.size _⟩ ?_; rintro W2 ⟨h1, h2⟩; have K1 := Kp.mk h1; have K2 := Kp.mk h2; clear h1 h2)
    | (refine wpList_store_row rfl 51 (.tmp 1) (.tmp 3) rfl B (kv .u8 dl).toArray rfl rfl 51 _ K1.out HC33.out HZ.out (kv_all _ _) ?_; refine wpl_world (fun w2 => Row w2 B 51 .u8 dl ∧ Below w.heap.size w w2) ⟨K1.out.setRow dl, Below.row K2.out (by have := HBe.out; have := HB.out.size; omega) _⟩ ?_; rintro W3 ⟨h1, h2⟩; have K3 := Kp.mk h2; have c0 := h1.cell (i := 0) (by rw [HL.out]; omega); have c1 := h1.cell (i := 64) (by rw [HL.out]; omega); have c2 := h1.cell (i := 65) (by rw [HL.out]; omega); rw [H0.out.1] at c0; rw [H0.out.2.1] at c1; rw [H0.out.2.2] at c2; clear h1 h2))
  go_ret
  exact ⟨rfl, K3.out⟩
end Go.Proofs.YtpljjmdkagbjpaaDoor
