/-
  The document's Check.
-/
import Derived.Test.YtcppmkblllappaaDoorCfL
import Derived.Deep.QuietTactic
import Derived.BigQuiet
namespace Go.Proofs.YtcppmkblllappaaDoor
open Go.RowKit

def ckR (r : Nat → Int) : Int := if ck r = 15 then -1 else (ck r : Int)
theorem row2 (w : World) (f g : Nat → Int) : Blk (((w.alloc (.cells (rc r0).toArray 40)).alloc (.cells (rc r0).toArray 40)).setRow w.heap.size (rc f).toArray) w.heap.size (.cells (rc f).toArray 40) ∧ Blk (((w.alloc (.cells (rc r0).toArray 40)).alloc (.cells (rc r0).toArray 40)).setRow w.heap.size (rc f).toArray) (w.heap.size + 1) (.cells (rc r0).toArray 40) ∧ Below w.heap.size w (((w.alloc (.cells (rc r0).toArray 40)).alloc (.cells (rc r0).toArray 40)).setRow w.heap.size (rc f).toArray) := by
  have h0 : Blk ((w.alloc (.cells (rc r0).toArray 40)).alloc (.cells (rc r0).toArray 40)) w.heap.size (.cells (rc r0).toArray 40) := (Blk.new _ _).old _
  have h2 : Blk ((w.alloc (.cells (rc r0).toArray 40)).alloc (.cells (rc r0).toArray 40)) (w.heap.size + 1) (.cells (rc r0).toArray 40) := Blk.newAt _ (by simp)
  exact ⟨Blk.setRow h0 _, (setRow_other _ _ _ _ (Nat.succ_ne_self _)).trans h2, below_setRow (more (more (Below.refl _ _) _) _) (Nat.le_refl _) _⟩
theorem row2b {w W : World} {f g : Nat → Int} {h : Nat} (e : Blk W h (.cells (rc f).toArray 40) ∧ Blk W (h + 1) (.cells (rc r0).toArray 40) ∧ Below h w W) : Blk (W.setRow (h + 1) (rc g).toArray) h (.cells (rc f).toArray 40) ∧ Blk (W.setRow (h + 1) (rc g).toArray) (h + 1) (.cells (rc g).toArray 40) ∧ Below h w (W.setRow (h + 1) (rc g).toArray) :=
  ⟨(setRow_other _ _ _ _ (Nat.succ_ne_self _).symm).trans e.1, Blk.setRow e.2.1 _, below_setRow e.2.2 (Nat.le_succ _) _⟩
set_option maxRecDepth 100000 in
set_option maxHeartbeats 6400000 in
theorem rcheck_any (r : Nat → Int) (w : World) : Calls Tryd.prog 13 #[.agg (rc r).toArray] w fun e w' => e = .returned (.int .i64 (ckR r)) ∧ Below w.heap.size w w' := by
  have hA := fun (w : World) => box_row (t := 40) (cs := rc r) (info40s r) w
  have HZ := Kp.mk info40z
  have HI : Kp (∀ f : Nat → Int, (Tryd.prog.info? 40).map (·.size) = some (rc f).toArray.size ∧ (rc r0).toArray.size = (rc f).toArray.size ∧ (rc f).toArray.all (·.oneCell') = true) := ⟨fun f => ⟨info40s f, by simp [rc_len], all_oneCell_toArray (rc_one f)⟩⟩
  obtain ⟨B, hB⟩ : ∃ B, B = w.heap.size := ⟨_, rfl⟩
  have HB := Kp.mk hB
  obtain ⟨w1, hw1⟩ : ∃ w1, w1 = w.alloc (.cells (rc r).toArray 40) := ⟨_, rfl⟩
  have HW1 := Kp.mk hw1
  have K1 : Kp (Blk w1 B (.cells (rc r).toArray 40) ∧ Below w.heap.size w w1) := ⟨by rw [hw1]; exact Blk.newAt _ hB, by rw [hw1]; exact more (Below.refl _ _) _⟩
  clear hB hw1
  go_enter Tryd.func13, Tryd.ntmps13
  go_upto_region 1 with (refine wpList_box_eq rfl 40 (.tmp 0) rfl _ rfl _ _ (hA _) ?_)
  rw [← HW1.out, ← HB.out]
  clear hA HW1
  go_wp2_with fail
  refine (rleast_any _).mono ?_
  rintro e w2 ⟨rfl, hb⟩
  have K2 : Kp (Blk w2 B (.cells (rc r).toArray 40) ∧ Below w.heap.size w w2) := ⟨K1.out.1.keep hb, K1.out.2.trans (hb.mono K1.out.2.size)⟩
  clear hb K1
  go_wp2_with fail
  refine (rmost_any _).mono ?_
  rintro e w3 ⟨rfl, hb⟩
  have K3 : Kp (Blk w3 B (.cells (rc r).toArray 40) ∧ Below w.heap.size w w3) := ⟨K2.out.1.keep hb, K2.out.2.trans (hb.mono K2.out.2.size)⟩
  clear hb K2
  go_upto_region 2 with (first
    | (refine wpList_alloc_row rfl 40 rfl (rc r0).toArray 15 HZ.out ?_)
    | (refine wpList_store_row rfl 40 (.tmp 3) (.tmp 6) rfl w3.heap.size (rc ls).toArray rfl rfl 40 _ ((Blk.new _ _).old _) (HI.out _).1 (HI.out _).2.1 (HI.out _).2.2 ?_
       have E1 := Kp.mk (row2 w3 ls gt)
       revert E1
       generalize World.setRow _ w3.heap.size (rc ls).toArray = y1
       intro E1)
    | (refine wpList_store_row rfl 40 (.tmp 4) (.tmp 7) rfl (w3.heap.size + 1) (rc gt).toArray (by first | rfl | (go_simp; done) | (simp; done)) rfl 40 _ E1.out.2.1 (HI.out _).1 (HI.out _).2.1 (HI.out _).2.2 ?_
       have G1 := Kp.mk (row2b (g := gt) E1.out)
       revert G1
       generalize World.setRow y1 (w3.heap.size + 1) (rc gt).toArray = w4
       intro G1))
  rw [show (w3.alloc (.cells (rc r0).toArray 40)).heap.size = w3.heap.size + 1 by simp]
  obtain ⟨A, hA⟩ : ∃ A, A = w3.heap.size := ⟨_, rfl⟩
  rw [← hA] at G1
  rw [← hA]
  have K4 : Kp (Blk w4 B (.cells (rc r).toArray 40) ∧ Blk w4 A (.cells (rc ls).toArray 40) ∧ Blk w4 (A + 1) (.cells (rc gt).toArray 40) ∧ Below w.heap.size w w4) := ⟨K3.out.1.keep (by have h := G1.out.2.2; rw [hA] at h; exact h), G1.out.1, G1.out.2.1, K3.out.2.trans (by have h := G1.out.2.2; rw [hA] at h; exact h.mono K3.out.2.size)⟩
  clear hA G1 K3 E1
  go_wp2_with fail
  go_loopw [5] (fun ct wr => ∃ i : Nat, i ≤ 15 ∧ ct = .int .i64 i ∧ Kp (ckF r (15 - i) i = ck r) ∧ Kp (Blk wr B (.cells (rc r).toArray 40) ∧ Blk wr A (.cells (rc ls).toArray 40) ∧ Blk wr (A + 1) (.cells (rc gt).toArray 40) ∧ Below w.heap.size w wr)) (fun ct _ => 15 - (intOf ct).toNat)
  case atStart => exact ⟨0, by omega, rfl, ⟨rfl⟩, K4⟩
  case round =>
    clear K4
    obtain ⟨i, hi, rfl, C3, K5⟩ := hrel
    by_cases hlt : i < 15
    · have hlt' : (i : Int) < 15 := by omega
      have HLT := Kp.mk hlt
      have c1 : wr.cell? ⟨B, i, none⟩ = some (.int .i64 (r i)) := K5.out.1.rc hlt
      have c2 : wr.cell? ⟨A, i, none⟩ = some (.int .i64 (ls i)) := K5.out.2.1.rc hlt
      have c3 : wr.cell? ⟨A + 1, i, none⟩ = some (.int .i64 (gt i)) := K5.out.2.2.1.rc hlt
      have CS : Kp (ck r = if mayB i (r i) = false then i else ckF r (15 - (i + 1)) (i + 1)) := ⟨by rw [← C3.out, ckF_step r hlt]⟩
      have HMB : Kp (mayB i (r i) = (decide (ls i ≤ r i ∧ r i ≤ gt i) && (decide (i ≠ 0) || pw (r i)))) := ⟨rfl⟩
      clear C3
      generalize ls i = li at c2 HMB
      generalize gt i = gi at c3 HMB
      obtain ⟨x, hx⟩ : ∃ x, x = r i := ⟨_, rfl⟩
      rw [← hx] at c1
      have HX := Kp.mk hx
      clear hx
      have KD : Kp (∀ n, Blk (wr.drewN n) B (.cells (rc r).toArray 40) ∧ Blk (wr.drewN n) A (.cells (rc ls).toArray 40) ∧ Blk (wr.drewN n) (A + 1) (.cells (rc gt).toArray 40) ∧ Below w.heap.size w (wr.drewN n)) := ⟨fun n => by
        have hb : Below wr.heap.size wr (wr.drewN n) := Below.drewNs (Below.refl _ _) n
        exact ⟨K5.out.1.keep hb, K5.out.2.1.keep hb, K5.out.2.2.1.keep hb, K5.out.2.2.2.trans (hb.mono K5.out.2.2.2.size)⟩⟩
      by_cases h1 : x < li
      · have HF : Kp (ckR r = i) := ⟨by
          unfold ckR
          have h : ck r = i := by rw [CS.out, if_pos (by rw [HMB.out, ← HX.out]; simp; omega)]
          rw [h, if_neg (by omega)]⟩
        go_wp2_with fail
        go_quiet (fail)
        go_wp2_with fail
        go_ret
        exact ⟨by rw [HF.out]; rfl, (KD.out _).2.2.2⟩
      · by_cases h2 : gi < x
        · have HF : Kp (ckR r = i) := ⟨by
            unfold ckR
            have h : ck r = i := by rw [CS.out, if_pos (by rw [HMB.out, ← HX.out]; simp; omega)]
            rw [h, if_neg (by omega)]⟩
          go_wp2_with fail
          go_quiet (fail)
          go_wp2_with fail
          go_ret
          exact ⟨by rw [HF.out]; rfl, (KD.out _).2.2.2⟩
        · have HMC : Kp (mayB i (r i) = (decide (i ≠ 0) || pw (r i))) := ⟨by rw [HMB.out, ← HX.out, decide_eq_true (by omega), Bool.true_and]⟩
          clear HMB
          go_wp2_with fail
          go_quiet (fail)
          have K6 := Kp.mk (KD.out nq)
          revert K6
          generalize wr.drewN nq = w6
          intro K6
          clear KD K5 c1 c2 c3
          have c1 : w6.cell? ⟨B, i, none⟩ = some (.int .i64 x) := by rw [HX.out]; exact K6.out.1.rc HLT.out
          by_cases h0 : i = 0
          · subst h0
            by_cases hp : pw (r 0) = true
            · have hcs : ckF r (15 - (0 + 1)) (0 + 1) = ck r := by rw [CS.out, if_neg (by rw [HMC.out, hp]; simp)]
              have CN := Kp.mk hcs
              have hp' : x = 1 ∨ x = 2 ∨ x = 4 ∨ x = 8 := by rw [HX.out]; unfold pw at hp; exact of_decide_eq_true hp
              clear hcs hp CS HMC
              rcases hp' with rfl | rfl | rfl | rfl
              all_goals
                go_wp2_with fail
                exact ⟨⟨1, by omega, rfl, CN, K6⟩, by simp [intOf]⟩
            · have HF : Kp (ckR r = (0 : Nat)) := ⟨by
                unfold ckR
                have h : ck r = 0 := by rw [CS.out, if_pos (by rw [HMC.out]; simpa using hp)]
                rw [h, if_neg (by omega)]⟩
              have hp' : ¬ (x = 1 ∨ x = 2 ∨ x = 4 ∨ x = 8) := fun h => hp (by unfold pw; rw [← HX.out]; exact decide_eq_true h)
              have q1 : (x == 1) = false := by simp; omega
              have p1 : (x != 1) = true := by simp; omega
              have q2 : (x == 2) = false := by simp; omega
              have p2 : (x != 2) = true := by simp; omega
              have q4 : (x == 4) = false := by simp; omega
              have p4 : (x != 4) = true := by simp; omega
              have q8 : (x == 8) = false := by simp; omega
              have p8 : (x != 8) = true := by simp; omega
              clear hp hp' CS HMC
              go_wp2_with fail
              go_ret
              exact ⟨by rw [HF.out]; rfl, K6.out.2.2.2⟩
          · have CN : Kp (ckF r (15 - (i + 1)) (i + 1) = ck r) := ⟨by rw [CS.out, if_neg (by rw [HMC.out, decide_eq_true h0]; simp)]⟩
            have h0' : ((i : Int) == 0) = false := by simp; omega
            clear CS HMC
            go_wp2_with fail
            exact ⟨⟨i + 1, by have := HLT.out; omega, by go_num, CN, K6⟩, by have := HLT.out; simp [intOf]; omega⟩
    · have h15 : i = 15 := by omega
      subst h15
      have HF : Kp (ckR r = -1) := ⟨by unfold ckR; rw [if_pos (show ck r = 15 from C3.out.symm)]⟩
      have K6 := Kp.mk K5.out.2.2.2
      clear K5 hlt C3
      go_wp2_with fail
      go_ret
      exact ⟨by rw [HF.out]; rfl, K6.out⟩
end Go.Proofs.YtcppmkblllappaaDoor
