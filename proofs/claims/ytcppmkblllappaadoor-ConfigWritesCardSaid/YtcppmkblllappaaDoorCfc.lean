/-
  ConfigWrites: the walk.
-/
import Derived.Test.YtcppmkblllappaaDoorCfb
namespace Go.Proofs.YtcppmkblllappaaDoor
open Go.RowKit

set_option maxRecDepth 100000 in
set_option maxHeartbeats 12800000 in
theorem writes_any (r : Nat → Int) (hr : I64s r) (w : World) (hk : Kon w) : Calls Tryd.prog 4 #[.agg (rc r).toArray] w (TPost w) := by
  have hA := fun (w : World) => box_row (t := 40) (cs := rc r) (info40s r) w
  have HK := Kp.mk hk
  have HR := Kp.mk hr
  have HI : Kp ((Tryd.prog.info? 40).map (·.size) = some (rc r).toArray.size) := ⟨info40s r⟩
  obtain ⟨B, hB⟩ : ∃ B, B = w.heap.size := ⟨_, rfl⟩
  have HB := Kp.mk hB
  obtain ⟨w1, hw1⟩ : ∃ w1, w1 = w.alloc (.cells (rc r).toArray 40) := ⟨_, rfl⟩
  have HW1 := Kp.mk hw1
  have K1 : Kp (Blk w1 B (.cells (rc r).toArray 40) ∧ Below w.heap.size w w1) := ⟨by rw [hw1]; exact Blk.newAt _ hB, by rw [hw1]; exact more (Below.refl _ _) _⟩
  have HTV := fun wx hx => text_any r hr wx hx
  have HRT := fun wx => rtext_any r hr wx
  generalize textV r = TX at HTV HRT
  clear hB hw1 hk
  go_enter Tryd.func4, Tryd.ntmps4
  go_upto_region 1 with (refine wpList_box_eq rfl 40 (.tmp 0) rfl _ rfl _ _ (hA _) ?_)
  rw [← HW1.out, ← HB.out]
  clear hA HW1
  go_wp2_with (refine wpList_load_row rfl 40 (.tmp 1) rfl B rfl 40 _ (0, 0) _ K1.out.1 Tryd.underlying40 rfl HI.out ?_)
  refine (to_any r _).mono ?_
  rintro e w2 ⟨rfl, hb⟩
  have K2 : Kp (Blk w2 B (.cells (rc r).toArray 40) ∧ Below w.heap.size w w2) := ⟨K1.out.1.keep hb, K1.out.2.trans (hb.mono K1.out.2.size)⟩
  clear hb K1
  go_wp2_with fail
  refine (check_any r HR.out _).mono ?_
  rintro e w3 ⟨rfl, hb⟩
  have K3 : Kp (Blk w3 B (.cells (rc r).toArray 40) ∧ Below w.heap.size w w3) := ⟨K2.out.1.keep hb, K2.out.2.trans (hb.mono K2.out.2.size)⟩
  clear hb K2
  go_wp2_with (refine wpList_load_row rfl 40 (.tmp 1) rfl B rfl 40 _ (0, 0) _ K3.out.1 Tryd.underlying40 rfl HI.out ?_)
  refine (rcheck_any r _).mono ?_
  rintro e w4 ⟨rfl, hb⟩
  have K4 : Kp (Blk w4 B (.cells (rc r).toArray 40) ∧ Below w.heap.size w w4) := ⟨K3.out.1.keep hb, K3.out.2.trans (hb.mono K3.out.2.size)⟩
  clear hb K3 hr
  have HE : Kp (∀ w, (binOp .eql 40 (.agg (rc dF).toArray) (.agg (rc dF).toArray)).run Tryd.prog w = .ok (.bool true) w) := ⟨fun w => by rw [eq40 dF_ok dF_ok, (sameR_iff dF dF).2 rfl]⟩
  by_cases hc : ck r = 15
  · rw [show nmA (ck r) = ⟨#[]⟩ by rw [hc]; rfl, show ckE r = 0 by unfold ckE; rw [if_pos hc], show ckR r = -1 by unfold ckR; rw [if_pos hc]]
    clear hc
    go_wp2_with fail
    have he40 := HE.out
    have hg40 := eqg40 dF dF
    refine wp_region_flow (fun w' => Blk w' B (.cells (rc r).toArray 40) ∧ Below w.heap.size w w') (by kernel_rfl) (by kernel_rfl) (by kernel_rfl)
      (fun _ _ h hb => ⟨h.1.keep hb, h.2.trans (hb.mono h.2.size)⟩) (⟨K4.out.1.draw, K4.out.2.drew⟩) ?_
    clear K4
    repeat (first
      | (apply Flow.call
         · rfl
         · intro wx hS; go_simp; constructor <;> with_reducible rfl
         · intro wx hS; exact awake_any wx (HK.out.keep hS.2)
         try simp only [Act.put, List.setIfInBounds_toArray, List.set_cons_zero, List.set_cons_succ])
      | (apply Flow.call
         · rfl
         · intro wx hS; go_simp; constructor <;> with_reducible rfl
         · intro wx hS; exact to_any r wx
         try simp only [Act.put, List.setIfInBounds_toArray, List.set_cons_zero, List.set_cons_succ])
      | (apply Flow.call
         · rfl
         · intro wx hS; go_simp; constructor <;> with_reducible rfl
         · intro wx hS; exact HTV wx (HK.out.keep hS.2)
         try simp only [Act.put, List.setIfInBounds_toArray, List.set_cons_zero, List.set_cons_succ])
      | (apply Flow.call
         · rfl
         · intro wx hS; go_simp; constructor <;> with_reducible rfl
         · intro wx hS; exact HRT wx
         try simp only [Act.put, List.setIfInBounds_toArray, List.set_cons_zero, List.set_cons_succ])
      | (apply Flow.call
         · rfl
         · intro wx hS; go_simp; constructor <;> with_reducible rfl
         · intro wx hS; exact default_any wx
         try simp only [Act.put, List.setIfInBounds_toArray, List.set_cons_zero, List.set_cons_succ])
      | (apply Flow.call
         · rfl
         · intro wx hS; go_simp; constructor <;> with_reducible rfl
         · intro wx hS; exact from_any dF wx
         try simp only [Act.put, List.setIfInBounds_toArray, List.set_cons_zero, List.set_cons_succ])
      | (apply Flow.call
         · rfl
         · intro wx hS; go_simp; constructor <;> with_reducible rfl
         · intro wx hS; exact rdefault_any wx
         try simp only [Act.put, List.setIfInBounds_toArray, List.set_cons_zero, List.set_cons_succ])
      | (apply Flow.value
         · rfl
         · (intro wx hS; exact exec_load_blk 40 (.tmp 1) rfl B rfl 40 (rc r).toArray (0, 0) _ hS.1 Tryd.underlying40 rfl HI.out)
         try simp only [Act.put, List.setIfInBounds_toArray, List.set_cons_zero, List.set_cons_succ])
      | (apply Flow.value
         · rfl
         · (intro wx hS; clear hS; go_simp; with_reducible rfl)
         try simp only [Act.put, List.setIfInBounds_toArray, List.set_cons_zero, List.set_cons_succ]))
    refine Flow.done ?_
    intro w9 hS
    have K9 := Kp.mk hS.2
    clear hS
    go_wp2_with fail
    go_ret
    exact ⟨rfl, K9.out⟩
  · have hck := ck_lt hc
    rw [show ckE r = 30 by unfold ckE; rw [if_neg hc], show ckR r = (ck r : Int) by unfold ckR; rw [if_neg hc]]
    obtain ⟨k, hkk⟩ : ∃ k, k = ck r := ⟨_, rfl⟩
    rw [← hkk] at hck
    rw [← hkk]
    have hk0 : ¬ (k : Int) < 0 := by omega
    have hk15 : (k : Int) < 15 := by omega
    have HK15 := Kp.mk hck
    obtain ⟨nm, hnm⟩ : ∃ nm, nm = nmA k := ⟨_, rfl⟩
    have HNM := Kp.mk hnm
    rw [← hnm]
    clear hc hkk hck hnm
    go_wp2_with fail
    refine (rnames_any _).mono ?_
    rintro e w5 ⟨rfl, hw5⟩
    obtain ⟨S, hS⟩ : ∃ S, S = w4.heap.size := ⟨_, rfl⟩
    rw [← hS]
    have K5 : Kp (Blk w5 B (.cells (rc r).toArray 40) ∧ Below w.heap.size w w5) := ⟨by rw [hw5]; exact K4.out.1.old _, by rw [hw5]; exact K4.out.2.alloc K4.out.2.size _⟩
    have hcn : w5.cell? ⟨S, k, none⟩ = some (.string nm) := by rw [HNM.out]; exact nm_at (by rw [hw5]; exact Blk.newAt _ hS) HK15.out
    clear hw5 hS K4
    rename Kp (Blk w5 B (.cells (rc r).toArray 40) ∧ Below w.heap.size w w5) => K4
    go_wp2_with fail
    have he40 := HE.out
    have hg40 := eqg40 dF dF
    clear hcn
    refine wp_region_flow (fun w' => Blk w' B (.cells (rc r).toArray 40) ∧ Below w.heap.size w w') (by kernel_rfl) (by kernel_rfl) (by kernel_rfl)
      (fun _ _ h hb => ⟨h.1.keep hb, h.2.trans (hb.mono h.2.size)⟩) (⟨K4.out.1.draw, K4.out.2.drew⟩) ?_
    clear K4
    repeat (first
      | (apply Flow.call
         · rfl
         · intro wx hS; go_simp; constructor <;> with_reducible rfl
         · intro wx hS; exact awake_any wx (HK.out.keep hS.2)
         try simp only [Act.put, List.setIfInBounds_toArray, List.set_cons_zero, List.set_cons_succ])
      | (apply Flow.call
         · rfl
         · intro wx hS; go_simp; constructor <;> with_reducible rfl
         · intro wx hS; exact to_any r wx
         try simp only [Act.put, List.setIfInBounds_toArray, List.set_cons_zero, List.set_cons_succ])
      | (apply Flow.call
         · rfl
         · intro wx hS; go_simp; constructor <;> with_reducible rfl
         · intro wx hS; exact HTV wx (HK.out.keep hS.2)
         try simp only [Act.put, List.setIfInBounds_toArray, List.set_cons_zero, List.set_cons_succ])
      | (apply Flow.call
         · rfl
         · intro wx hS; go_simp; constructor <;> with_reducible rfl
         · intro wx hS; exact HRT wx
         try simp only [Act.put, List.setIfInBounds_toArray, List.set_cons_zero, List.set_cons_succ])
      | (apply Flow.call
         · rfl
         · intro wx hS; go_simp; constructor <;> with_reducible rfl
         · intro wx hS; exact default_any wx
         try simp only [Act.put, List.setIfInBounds_toArray, List.set_cons_zero, List.set_cons_succ])
      | (apply Flow.call
         · rfl
         · intro wx hS; go_simp; constructor <;> with_reducible rfl
         · intro wx hS; exact from_any dF wx
         try simp only [Act.put, List.setIfInBounds_toArray, List.set_cons_zero, List.set_cons_succ])
      | (apply Flow.call
         · rfl
         · intro wx hS; go_simp; constructor <;> with_reducible rfl
         · intro wx hS; exact rdefault_any wx
         try simp only [Act.put, List.setIfInBounds_toArray, List.set_cons_zero, List.set_cons_succ])
      | (apply Flow.value
         · rfl
         · (intro wx hS; exact exec_load_blk 40 (.tmp 1) rfl B rfl 40 (rc r).toArray (0, 0) _ hS.1 Tryd.underlying40 rfl HI.out)
         try simp only [Act.put, List.setIfInBounds_toArray, List.set_cons_zero, List.set_cons_succ])
      | (apply Flow.value
         · rfl
         · (intro wx hS; clear hS; go_simp; with_reducible rfl)
         try simp only [Act.put, List.setIfInBounds_toArray, List.set_cons_zero, List.set_cons_succ]))
    refine Flow.done ?_
    intro w9 hS
    have K9 := Kp.mk hS.2
    clear hS
    go_wp2_with fail
    go_ret
    exact ⟨rfl, K9.out⟩
theorem writes_walk (r : Nat → Int) (w : World) (hr : I64s r) (hk : Kon w) : Calls Tryd.prog 4 #[.agg (rc r).toArray] w (TPost w) := writes_any r hr w hk
end Go.Proofs.YtcppmkblllappaaDoor
