/-
  ConfigFits: the walk.
-/
import Derived.Test.YtcppmkblllappaaDoorCfJ
namespace Go.Proofs.YtcppmkblllappaaDoor
open Go.RowKit

set_option maxRecDepth 100000 in
set_option maxHeartbeats 6400000 in
theorem fits_any (r : Nat → Int) (hr : I64s r) (w : World) (hk : Kon w) : Calls Tryd.prog 6 #[.agg (rc r).toArray] w (TPost w) := by
  have HK := Kp.mk hk
  have HR := Kp.mk hr
  have HZ := wZ
  have hA := fun (w : World) => box_row (t := 40) (cs := rc r) (info40s r) w
  have HI : Kp ((Tryd.prog.info? 33).map (·.size) = some (rc r).toArray.size ∧ (rc r0).toArray.size = (rc r).toArray.size ∧ (rc r).toArray.all (·.oneCell') = true ∧ (Tryd.prog.info? 40).map (·.size) = some (rc r).toArray.size) := ⟨info33s r, by simp [rc_len], all_oneCell_toArray (rc_one r), info40s r⟩
  obtain ⟨w1, hw1⟩ : ∃ w1, w1 = w.alloc (.cells (rc r).toArray 40) := ⟨_, rfl⟩
  have HW1 := Kp.mk hw1
  obtain ⟨B, hB⟩ : ∃ B, B = w.heap.size := ⟨_, rfl⟩
  have HB := Kp.mk hB
  have K1 : Kp (Blk w1 B (.cells (rc r).toArray 40) ∧ Below w.heap.size w w1) := ⟨by rw [hw1]; exact Blk.newAt _ hB, by rw [hw1]; exact more (Below.refl _ _) _⟩
  clear hk hr hB hw1
  go_enter Tryd.func6, Tryd.ntmps6
  go_upto_region 1 with (refine wpList_box_eq rfl 40 (.tmp 0) rfl _ rfl _ _ (hA _) ?_)
  rw [← HW1.out, ← HB.out]
  clear hA HW1 HB
  go_wp2_with (refine wpList_load_row rfl 40 (.tmp 1) rfl B rfl 40 _ (0, 0) _ K1.out.1 Tryd.underlying40 rfl HI.out.2.2.2 ?_)
  refine (to_any r _).mono ?_
  rintro e w2 ⟨rfl, hb⟩
  have K2 : Kp (Below w.heap.size w w2) := ⟨K1.out.2.trans (hb.mono K1.out.2.size)⟩
  clear hb K1
  obtain ⟨X, hX⟩ : ∃ X, X = w2.heap.size := ⟨_, rfl⟩
  have HX := Kp.mk hX
  clear hX
  go_upto_region 2 with (first
    | (refine wpList_alloc_row rfl 33 rfl (rc r0).toArray 15 HZ.out.2.2 ?_)
    | (refine wpList_store_row rfl 33 (.tmp 3) (.tmp 7) rfl w2.heap.size (rc r).toArray rfl rfl 33 _ (Blk.new _ _) HI.out.1 HI.out.2.1 HI.out.2.2.1 ?_
       rw [World.setRow_alloc_new]))
  rw [← HX.out]
  have K3 : Kp (Blk (w2.alloc (rObj r)) X (rObj r) ∧ Below w.heap.size w (w2.alloc (rObj r))) := ⟨Blk.newAt _ HX.out, K2.out.alloc K2.out.size _⟩
  revert K3
  generalize w2.alloc (.cells (rc r).toArray 33) = w3
  intro K3
  clear K2 HX
  go_wp2_with (refine wpList_load_row rfl 33 (.tmp 3) rfl X rfl 33 _ (0, 0) _ K3.out.1 Tryd.underlying33 rfl HI.out.1 ?_)
  refine (check_any r HR.out _).mono ?_
  rintro e w4 ⟨rfl, hb⟩
  have K4 : Kp (Blk w4 X (rObj r) ∧ Below w.heap.size w w4) := ⟨K3.out.1.keep hb, K3.out.2.trans (hb.mono K3.out.2.size)⟩
  clear hb K3
  by_cases hc : ck r = 15
  · have hE : ckE r = 0 := by unfold ckE; rw [if_pos hc]
    have HM := Kp.mk (ck_may hc)
    clear hc
    go_wp2_with fail
    refine (awake_any _ (HK.out.keep K4.out.2)).mono ?_
    rintro e w5 ⟨rfl, hb⟩
    have K5 : Kp (Blk w5 X (rObj r) ∧ Below w.heap.size w w5) := ⟨K4.out.1.keep hb, K4.out.2.trans (hb.mono K4.out.2.size)⟩
    clear hb K4 hE
    have c0 : w5.cell? ⟨X, 0, none⟩ = some (.int .i64 (r 0)) := K5.out.1.rc (by decide)
    have c1 : w5.cell? ⟨X, 1, none⟩ = some (.int .i64 (r 1)) := K5.out.1.rc (by decide)
    have c2 : w5.cell? ⟨X, 2, none⟩ = some (.int .i64 (r 2)) := K5.out.1.rc (by decide)
    go_wp2_with fail
    refine (spring_any (r 0) (r 1) (r 2) (pw_some (HM.out 0 (by decide)).1 (HM.out 0 (by decide)).2.1 ((HM.out 0 (by decide)).2.2 rfl)) (HM.out 1 (by decide)).1 (Int.le_trans (HM.out 1 (by decide)).2.1 (by decide)) (HM.out 2 (by decide)).1 (HM.out 2 (by decide)).2.1 _).mono ?_
    rintro e w6 ⟨rfl, hb⟩
    have K6 : Kp (Blk w6 X (rObj r) ∧ Below w.heap.size w w6) := ⟨K5.out.1.keep hb, K5.out.2.trans (hb.mono K5.out.2.size)⟩
    clear hb K5 c0 c1 c2
    have c3 : w6.cell? ⟨X, 3, none⟩ = some (.int .i64 (r 3)) := K6.out.1.rc (by decide)
    have c4 : w6.cell? ⟨X, 4, none⟩ = some (.int .i64 (r 4)) := K6.out.1.rc (by decide)
    have c5 : w6.cell? ⟨X, 5, none⟩ = some (.int .i64 (r 5)) := K6.out.1.rc (by decide)
    have c6 : w6.cell? ⟨X, 6, none⟩ = some (.int .i64 (r 6)) := K6.out.1.rc (by decide)
    have c7 : w6.cell? ⟨X, 7, none⟩ = some (.int .i64 (r 7)) := K6.out.1.rc (by decide)
    have c8 : w6.cell? ⟨X, 8, none⟩ = some (.int .i64 (r 8)) := K6.out.1.rc (by decide)
    go_wp2_with fail
    refine (peer_any (r 3) (r 4) (r 5) (r 6) (r 7) (r 8) (HM.out 3 (by decide)).1 (HM.out 3 (by decide)).2.1 (HM.out 4 (by decide)).1 (HM.out 4 (by decide)).2.1 (HM.out 5 (by decide)).1 (HM.out 5 (by decide)).2.1 (HM.out 6 (by decide)).1 (HM.out 6 (by decide)).2.1 (HM.out 7 (by decide)).1 (HM.out 7 (by decide)).2.1 (HM.out 8 (by decide)).1 (HM.out 8 (by decide)).2.1 _).mono ?_
    rintro e w7 ⟨rfl, hb⟩
    have K7 : Kp (Blk w7 X (rObj r) ∧ Below w.heap.size w w7) := ⟨K6.out.1.keep hb, K6.out.2.trans (hb.mono K6.out.2.size)⟩
    clear hb K6 c3 c4 c5 c6 c7 c8
    have c9 : w7.cell? ⟨X, 9, none⟩ = some (.int .i64 (r 9)) := K7.out.1.rc (by decide)
    have c10 : w7.cell? ⟨X, 10, none⟩ = some (.int .i64 (r 10)) := K7.out.1.rc (by decide)
    go_wp2_with fail
    refine (rib_any (r 9) (r 10) (HM.out 9 (by decide)).1 (HM.out 9 (by decide)).2.1 (HM.out 10 (by decide)).1 (HM.out 10 (by decide)).2.1 _).mono ?_
    rintro e w8 ⟨rfl, hb⟩
    have K8 : Kp (Blk w8 X (rObj r) ∧ Below w.heap.size w w8) := ⟨K7.out.1.keep hb, K7.out.2.trans (hb.mono K7.out.2.size)⟩
    clear hb K7 c9 c10
    have c11 : w8.cell? ⟨X, 11, none⟩ = some (.int .i64 (r 11)) := K8.out.1.rc (by decide)
    have c12 : w8.cell? ⟨X, 12, none⟩ = some (.int .i64 (r 12)) := K8.out.1.rc (by decide)
    go_wp2_with fail
    refine (settle_any (r 11) (r 12) (HM.out 11 (by decide)).1 (HM.out 11 (by decide)).2.1 (HM.out 12 (by decide)).1 (HM.out 12 (by decide)).2.1 _).mono ?_
    rintro e w9 ⟨rfl, hb⟩
    have K9 : Kp (Below w.heap.size w w9) := ⟨K8.out.2.trans (hb.mono K8.out.2.size)⟩
    clear hb K8 c11 c12
    go_wp2_with fail
    go_ret
    exact ⟨rfl, K9.out⟩
  · have hE : ckE r = 30 := by unfold ckE; rw [if_neg hc]
    clear hc
    go_wp2_with fail
    refine (awake_any _ (HK.out.keep K4.out.2)).mono ?_
    rintro e w5 ⟨rfl, hb⟩
    have K5 : Kp (Below w.heap.size w w5) := ⟨K4.out.2.trans (hb.mono K4.out.2.size)⟩
    clear hb K4 hE
    go_wp2_with fail
    go_ret
    exact ⟨rfl, K5.out⟩
end Go.Proofs.YtcppmkblllappaaDoor
