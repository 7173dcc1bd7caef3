/-
  Rules by default; may a number be what it is; Check.
-/
import Derived.Test.YtcppmkblllappaaDoorCfA
namespace Go.Proofs.YtcppmkblllappaaDoor
open Go.RowKit

theorem info33z : (Tryd.prog.info? 33).map (fun i => (i.zero, i.size)) = some (some (.agg (rc r0).toArray), 15) := by kernel_rfl
theorem info33l (f : Nat → Int) : (Tryd.prog.info? 33).map (·.size) = some (rc f).length := by rw [rc_len]; kernel_rfl
theorem info33s (f : Nat → Int) : (Tryd.prog.info? 33).map (·.size) = some (rc f).toArray.size := by rw [List.size_toArray, rc_len]; kernel_rfl
/-- The first k are as usual. -/
def usF (k : Nat) : Nat → Int := fun i => if i < k then us i else 0
theorem usF_set (k : Nat) : upd (usF k) k (us k) = usF (k + 1) := by
  funext i
  unfold upd usF
  by_cases e : i = k
  · subst e; simp
  · rw [if_neg e]
    by_cases h : i < k
    · rw [if_pos h, if_pos (by omega)]
    · rw [if_neg h, if_neg (by omega)]
theorem usF_zero : usF 0 = r0 := by funext i; simp [usF, r0]
def dF : Nat → Int := us
theorem rc_us : rc (usF 15) = rc dF := by
  unfold rc
  apply List.map_congr_left
  intro i hi
  have := List.mem_range.1 hi
  simp [usF, dF, this]
theorem ret17 {tmps : Array Value} {w : World} {f : Nat → Int} {g : Nat} (h2 : tmps.getD 0 undef = .pointer (some ⟨g, 0, none⟩)) (hg : Blk w g (rObj f)) : (results Tryd.f17 tmps).run Tryd.prog w = .ok (.agg (rc f).toArray) w :=
  results_cell_row (P := Tryd.prog) Tryd.results17 tmps w g 33 (rc f).toArray (0, 0) _ h2 hg Tryd.underlying33 rfl (info33s f)
set_option maxRecDepth 100000 in
set_option maxHeartbeats 6400000 in
theorem default_any (w : World) : Calls Tryd.prog 17 #[] w fun r w' => r = .returned (.agg (rc dF).toArray) ∧ Below w.heap.size w w' := by
  obtain ⟨A, hA⟩ : ∃ A, A = w.heap.size := ⟨_, rfl⟩
  obtain ⟨B, hB⟩ : ∃ B, B = A + 1 := ⟨_, rfl⟩
  have HAB : Kp (A = w.heap.size ∧ B = A + 1) := ⟨hA, hB⟩
  have HNE : Kp (A ≠ B) := ⟨by omega⟩
  obtain ⟨w1, hw1⟩ : ∃ w1, w1 = (w.alloc (rObj r0)).alloc (rObj r0) := ⟨_, rfl⟩
  have HW1 := Kp.mk hw1
  have K1 : Kp (Blk w1 A (rObj r0) ∧ Blk w1 B (rObj r0) ∧ Below w.heap.size w w1) := ⟨by rw [hw1]; exact ⟨(Blk.newAt _ hA).old _, Blk.newAt _ (by rw [hB, hA]; simp), more (more (Below.refl _ _) _) _⟩⟩
  obtain ⟨Z, hZ⟩ : ∃ Z, Z = (rc r0).toArray := ⟨_, rfl⟩
  have HZ := Kp.mk hZ
  have HZI : Kp ((Tryd.prog.info? 33).map (fun i => (i.zero, i.size)) = some (some (.agg Z), 15)) := ⟨by rw [hZ]; exact info33z⟩
  clear hA hB hw1 hZ
  go_enter Tryd.func17, Tryd.ntmps17
  go_upto_region 2 with (refine wpList_alloc_row rfl 33 rfl Z 15 HZI.out ?_)
  rw [HZ.out, ← HW1.out, show (w.alloc (.cells (rc r0).toArray 33)).heap.size = B by rw [HAB.out.2, HAB.out.1]; simp, ← HAB.out.1]
  clear HZI
  go_wp2_with fail
  refine (numbers_any B _).mono ?_
  rintro r w2 ⟨L, rfl, hL, hlL, hb⟩
  have K2 : Kp (Blk w2 A (rObj r0) ∧ Blk w2 B (rObj (usF 0)) ∧ Below w.heap.size w w2 ∧ Blk w2 L (nbObj B)) := ⟨K1.out.1.keep hb, by rw [usF_zero]; exact K1.out.2.1.keep hb, K1.out.2.2.trans (hb.mono K1.out.2.2.size), hL⟩
  have HLB : Kp (L ≠ B ∧ L ≠ A) := ⟨by have := K1.out.2.1.lt; have := K1.out.1.lt; omega⟩
  clear hL hlL hb K1
  go_wp2_with fail
  go_loopw [6] (fun ct wr => ∃ i : Nat, i ≤ 15 ∧ ct = .int .i64 i ∧ Kp (Blk wr A (rObj r0) ∧ Blk wr B (rObj (usF i)) ∧ Below w.heap.size w wr ∧ Blk wr L (nbObj B))) (fun ct _ => 15 - (intOf ct).toNat)
  case atStart => exact ⟨0, by omega, rfl, K2⟩
  case round =>
    clear K2
    obtain ⟨i, hi, rfl, K3⟩ := hrel
    by_cases hlt : i < 15
    · have hlt' : (i : Int) < 15 := by omega
      have HLT := Kp.mk hlt
      have hrg := nb_cells K3.out.2.2.2 hlt
      have n0 : wr.cell? ⟨L, i * 5, none⟩ = some (.string (nmA i)) := hrg 0 _ rfl
      have n1 : wr.cell? ⟨L, i * 5 + 1, none⟩ = some (.int .i64 (ls i)) := hrg 1 _ rfl
      have n2 : wr.cell? ⟨L, i * 5 + 2, none⟩ = some (.int .i64 (gt i)) := hrg 2 _ rfl
      have n3 : wr.cell? ⟨L, i * 5 + 3, none⟩ = some (.int .i64 (us i)) := hrg 3 _ rfl
      have n4 : wr.cell? ⟨L, i * 5 + 4, none⟩ = some (.pointer (some ⟨B, i, none⟩)) := hrg 4 _ rfl
      have hc : wr.cell? ⟨B, i, none⟩ = some (.int .i64 (usF i i)) := K3.out.2.1.rc hlt
      have hz : wr.frozen? ⟨B, i, none⟩ = false := K3.out.2.1.frozen i
      have lB := K3.out.2.1.lt
      have K4 : Kp (∀ o, Blk ((wr.setCell ⟨B, i, none⟩ (.int .i64 (us i))).alloc o) A (rObj r0) ∧ Blk ((wr.setCell ⟨B, i, none⟩ (.int .i64 (us i))).alloc o) B (rObj (usF (i + 1))) ∧ Below w.heap.size w ((wr.setCell ⟨B, i, none⟩ (.int .i64 (us i))).alloc o) ∧ Blk ((wr.setCell ⟨B, i, none⟩ (.int .i64 (us i))).alloc o) L (nbObj B)) := ⟨fun o => by
        have h2 := K3.out.2.1.set i (.int .i64 (us i))
        rw [show (rc (usF i)).toArray.setIfInBounds i (.int .i64 (us i)) = (rc (usF (i + 1))).toArray by rw [List.setIfInBounds_toArray, rc_set, usF_set]] at h2
        have hbb : Below w.heap.size w (wr.setCell ⟨B, i, none⟩ (.int .i64 (us i))) := K3.out.2.2.1.setCell (p := ⟨B, i, none⟩) (by rw [← HAB.out.1]; have := HAB.out.2; show A ≤ B; omega) _
        exact ⟨Blk.old ((Below.heap_setCell _ _ _ _ HNE.out).trans K3.out.1) _, h2.old _, hbb.alloc hbb.size _, Blk.old ((Below.heap_setCell _ _ _ _ HLB.out.1).trans K3.out.2.2.2) _⟩⟩
      clear hrg hlt
      generalize nmA i = nm at n0
      generalize ls i = li at n1
      generalize gt i = gi at n2
      generalize us i = ui at n3 K4
      generalize usF i i = oi at hc
      clear K3
      go_wp2_with fail
      exact ⟨⟨i + 1, by have := HLT.out; omega, by go_num, ⟨K4.out _⟩⟩, by have := HLT.out; simp [intOf]; omega⟩
    · have hi : i = 15 := by omega
      subst hi
      have K4 : Kp (Blk wr A (rObj r0) ∧ Blk wr B (rObj dF) ∧ Below w.heap.size w wr) := ⟨K3.out.1, by have h := K3.out.2.1; unfold rObj at h ⊢; rw [rc_us] at h; exact h, K3.out.2.2.1⟩
      clear K3 hlt
      have HR : wr.rangeAt B 0 (rc dF) := Blk.range (cs := rc dF) (o := 0) K4.out.2.1 (by simp)
      have HRG := Kp.mk HR
      clear HR
      have HI : Kp ((Tryd.prog.info? 33).map (·.size) = some (rc dF).length ∧ (Tryd.prog.info? 33).map (·.size) = some (rc dF).toArray.size ∧ (rc dF).toArray.size = (rc r0).toArray.size) := ⟨info33l _, info33s _, by simp [rc_len]⟩
      go_wp2_with (first
        | (refine wpList_load_mid rfl 33 (.tmp 1) rfl B 0 rfl (rc dF) _ HRG.out Tryd.underlying33 rfl HI.out.1 ?_)
        | (refine wpList_store_row rfl 33 (.tmp 0) (.tmp 16) rfl A (rc dF).toArray rfl rfl 33 _ K4.out.1 HI.out.2.1 HI.out.2.2 (all_oneCell_toArray (rc_one dF)) ?_
           have K5 : Kp (Blk (wr.setRow A (rc dF).toArray) A (rObj dF) ∧ Below w.heap.size w (wr.setRow A (rc dF).toArray)) := ⟨Blk.setRow K4.out.1 _, below_setRow K4.out.2.2 (by rw [HAB.out.1]; exact Nat.le_refl _) _⟩
           revert K5
           generalize wr.setRow A (rc dF).toArray = w9
           intro K5))
      exact bodyPost_ret (v := .agg (rc dF).toArray) (ret17 rfl K5.out.1) rfl ⟨rfl, K5.out.2⟩
end Go.Proofs.YtcppmkblllappaaDoor
