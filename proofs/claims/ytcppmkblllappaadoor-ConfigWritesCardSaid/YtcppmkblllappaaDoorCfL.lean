/-
  The document's rows of numbers; the program's rules as the document's.
-/
import Derived.Test.YtcppmkblllappaaDoorCfJ
namespace Go.Proofs.YtcppmkblllappaaDoor
open Go.RowKit

theorem info40z : (Tryd.prog.info? 40).map (fun i => (i.zero, i.size)) = some (some (.agg (rc r0).toArray), 15) := by kernel_rfl
theorem ret18 {tmps : Array Value} {w : World} {f : Nat → Int} {g : Nat} (h2 : tmps.getD 0 undef = .pointer (some ⟨g, 0, none⟩)) (hg : Blk w g (.cells (rc f).toArray 40)) : (results Tryd.f18 tmps).run Tryd.prog w = .ok (.agg (rc f).toArray) w :=
  results_cell_row (P := Tryd.prog) Tryd.results18 tmps w g 40 (rc f).toArray (0, 0) _ h2 hg Tryd.underlying40 rfl (info40s f)
set_option maxRecDepth 100000 in
theorem rdefault_any (w : World) : Calls Tryd.prog 18 #[] w fun e w' => e = .returned (.agg (rc dF).toArray) ∧ Below w.heap.size w w' := by
  have HZ := Kp.mk info40z
  have HI : Kp ((Tryd.prog.info? 40).map (·.size) = some (rc dF).toArray.size ∧ (rc r0).toArray.size = (rc dF).toArray.size ∧ (rc dF).toArray.all (·.oneCell') = true) := ⟨info40s _, by simp [rc_len], all_oneCell_toArray (rc_one _)⟩
  go_enter Tryd.func18, Tryd.ntmps18
  go_upto_region 1 with (refine wpList_alloc_row rfl 40 rfl (rc r0).toArray 15 HZ.out ?_)
  obtain ⟨B, hB⟩ : ∃ B, B = w.heap.size := ⟨_, rfl⟩
  rw [← hB]
  have K1 : Kp (Blk (w.alloc (.cells (rc r0).toArray 40)) B (.cells (rc r0).toArray 40) ∧ Below w.heap.size w (w.alloc (.cells (rc r0).toArray 40)) ∧ w.heap.size ≤ B) := ⟨Blk.newAt _ hB, more (Below.refl _ _) _, by omega⟩
  revert K1
  generalize w.alloc (.cells (rc r0).toArray 40) = w1
  intro K1
  clear hB
  go_wp2_with (first
    | (refine wpList_build_eq rfl 40 _ rfl _ rfl (rc dF).toArray (by kernel_rfl) ?_)
    | (refine wpList_store_row rfl 40 (.tmp 0) (.tmp 1) rfl B (rc dF).toArray rfl rfl 40 _ K1.out.1 HI.out.1 HI.out.2.1 HI.out.2.2 ?_
       have KE : Kp (Blk (w1.setRow B (rc dF).toArray) B (.cells (rc dF).toArray 40) ∧ Below w.heap.size w (w1.setRow B (rc dF).toArray)) := ⟨Blk.setRow K1.out.1 _, below_setRow K1.out.2.1 K1.out.2.2 _⟩
       revert KE
       generalize w1.setRow B (rc dF).toArray = w3
       intro KE))
  exact bodyPost_ret (v := .agg (rc dF).toArray) (ret18 rfl KE.out.1) rfl ⟨rfl, KE.out.2⟩
theorem ret30 {tmps : Array Value} {w : World} {f : Nat → Int} {g : Nat} (h2 : tmps.getD 0 undef = .pointer (some ⟨g, 0, none⟩)) (hg : Blk w g (.cells (rc f).toArray 40)) : (results Tryd.f30 tmps).run Tryd.prog w = .ok (.agg (rc f).toArray) w :=
  results_cell_row (P := Tryd.prog) Tryd.results30 tmps w g 40 (rc f).toArray (0, 0) _ h2 hg Tryd.underlying40 rfl (info40s f)
set_option maxRecDepth 100000 in
theorem rleast_any (w : World) : Calls Tryd.prog 30 #[] w fun e w' => e = .returned (.agg (rc ls).toArray) ∧ Below w.heap.size w w' := by
  have HZ := Kp.mk info40z
  have HI : Kp ((Tryd.prog.info? 40).map (·.size) = some (rc ls).toArray.size ∧ (rc r0).toArray.size = (rc ls).toArray.size ∧ (rc ls).toArray.all (·.oneCell') = true) := ⟨info40s _, by simp [rc_len], all_oneCell_toArray (rc_one _)⟩
  go_enter Tryd.func30, Tryd.ntmps30
  go_upto_region 1 with (refine wpList_alloc_row rfl 40 rfl (rc r0).toArray 15 HZ.out ?_)
  obtain ⟨B, hB⟩ : ∃ B, B = w.heap.size := ⟨_, rfl⟩
  rw [← hB]
  have K1 : Kp (Blk (w.alloc (.cells (rc r0).toArray 40)) B (.cells (rc r0).toArray 40) ∧ Below w.heap.size w (w.alloc (.cells (rc r0).toArray 40)) ∧ w.heap.size ≤ B) := ⟨Blk.newAt _ hB, more (Below.refl _ _) _, by omega⟩
  revert K1
  generalize w.alloc (.cells (rc r0).toArray 40) = w1
  intro K1
  clear hB
  go_wp2_with (first
    | (refine wpList_build_eq rfl 40 _ rfl _ rfl (rc ls).toArray (by kernel_rfl) ?_)
    | (refine wpList_store_row rfl 40 (.tmp 0) (.tmp 1) rfl B (rc ls).toArray rfl rfl 40 _ K1.out.1 HI.out.1 HI.out.2.1 HI.out.2.2 ?_
       have KE : Kp (Blk (w1.setRow B (rc ls).toArray) B (.cells (rc ls).toArray 40) ∧ Below w.heap.size w (w1.setRow B (rc ls).toArray)) := ⟨Blk.setRow K1.out.1 _, below_setRow K1.out.2.1 K1.out.2.2 _⟩
       revert KE
       generalize w1.setRow B (rc ls).toArray = w3
       intro KE))
  exact bodyPost_ret (v := .agg (rc ls).toArray) (ret30 rfl KE.out.1) rfl ⟨rfl, KE.out.2⟩
theorem ret31 {tmps : Array Value} {w : World} {f : Nat → Int} {g : Nat} (h2 : tmps.getD 0 undef = .pointer (some ⟨g, 0, none⟩)) (hg : Blk w g (.cells (rc f).toArray 40)) : (results Tryd.f31 tmps).run Tryd.prog w = .ok (.agg (rc f).toArray) w :=
  results_cell_row (P := Tryd.prog) Tryd.results31 tmps w g 40 (rc f).toArray (0, 0) _ h2 hg Tryd.underlying40 rfl (info40s f)
set_option maxRecDepth 100000 in
theorem rmost_any (w : World) : Calls Tryd.prog 31 #[] w fun e w' => e = .returned (.agg (rc gt).toArray) ∧ Below w.heap.size w w' := by
  have HZ := Kp.mk info40z
  have HI : Kp ((Tryd.prog.info? 40).map (·.size) = some (rc gt).toArray.size ∧ (rc r0).toArray.size = (rc gt).toArray.size ∧ (rc gt).toArray.all (·.oneCell') = true) := ⟨info40s _, by simp [rc_len], all_oneCell_toArray (rc_one _)⟩
  go_enter Tryd.func31, Tryd.ntmps31
  go_upto_region 1 with (refine wpList_alloc_row rfl 40 rfl (rc r0).toArray 15 HZ.out ?_)
  obtain ⟨B, hB⟩ : ∃ B, B = w.heap.size := ⟨_, rfl⟩
  rw [← hB]
  have K1 : Kp (Blk (w.alloc (.cells (rc r0).toArray 40)) B (.cells (rc r0).toArray 40) ∧ Below w.heap.size w (w.alloc (.cells (rc r0).toArray 40)) ∧ w.heap.size ≤ B) := ⟨Blk.newAt _ hB, more (Below.refl _ _) _, by omega⟩
  revert K1
  generalize w.alloc (.cells (rc r0).toArray 40) = w1
  intro K1
  clear hB
  go_wp2_with (first
    | (refine wpList_build_eq rfl 40 _ rfl _ rfl (rc gt).toArray (by kernel_rfl) ?_)
    | (refine wpList_store_row rfl 40 (.tmp 0) (.tmp 1) rfl B (rc gt).toArray rfl rfl 40 _ K1.out.1 HI.out.1 HI.out.2.1 HI.out.2.2 ?_
       have KE : Kp (Blk (w1.setRow B (rc gt).toArray) B (.cells (rc gt).toArray 40) ∧ Below w.heap.size w (w1.setRow B (rc gt).toArray)) := ⟨Blk.setRow K1.out.1 _, below_setRow K1.out.2.1 K1.out.2.2 _⟩
       revert KE
       generalize w1.setRow B (rc gt).toArray = w3
       intro KE))
  exact bodyPost_ret (v := .agg (rc gt).toArray) (ret31 rfl KE.out.1) rfl ⟨rfl, KE.out.2⟩
theorem ret10 {tmps : Array Value} {w : World} {f : Nat → Int} {g : Nat} (h2 : tmps.getD 2 undef = .pointer (some ⟨g, 0, none⟩)) (hg : Blk w g (.cells (rc f).toArray 40)) : (results Tryd.f10 tmps).run Tryd.prog w = .ok (.agg (rc f).toArray) w :=
  results_cell_row (P := Tryd.prog) Tryd.results10 tmps w g 40 (rc f).toArray (0, 0) _ h2 hg Tryd.underlying40 rfl (info40s f)
set_option maxRecDepth 100000 in
set_option maxHeartbeats 3200000 in
theorem from_any (r : Nat → Int) (w : World) : Calls Tryd.prog 10 #[.agg (rc r).toArray] w fun e w' => e = .returned (.agg (rc r).toArray) ∧ Below w.heap.size w w' := by
  have hA := fun (w : World) => box_row (t := 33) (cs := rc r) (info33s r) w
  have HZ := Kp.mk info40z
  obtain ⟨B, hB⟩ : ∃ B, B = w.heap.size := ⟨_, rfl⟩
  have HB := Kp.mk hB
  obtain ⟨w1, hw1⟩ : ∃ w1, w1 = w.alloc (.cells (rc r).toArray 33) := ⟨_, rfl⟩
  have HW1 := Kp.mk hw1
  have K1 : Kp (Blk w1 B (.cells (rc r).toArray 33) ∧ Below w.heap.size w w1 ∧ w1.heap.size = B + 1) := ⟨by rw [hw1]; exact Blk.newAt _ hB, by rw [hw1]; exact more (Below.refl _ _) _, by rw [hw1, hB]; simp⟩
  clear hB hw1
  go_enter Tryd.func10, Tryd.ntmps10
  go_upto_region 1 with (first
    | (refine wpList_box_eq rfl 33 (.tmp 0) rfl _ rfl _ _ (hA _) ?_)
    | (refine wpList_alloc_row rfl 40 rfl (rc r0).toArray 15 HZ.out ?_))
  rw [← HW1.out, ← HB.out, K1.out.2.2]
  clear hA HW1
  have K2 : Kp (Blk (w1.alloc (.cells (rc r0).toArray 40)) B (.cells (rc r).toArray 33) ∧ Blk (w1.alloc (.cells (rc r0).toArray 40)) (B + 1) (.cells (rc r0).toArray 40) ∧ Below w.heap.size w (w1.alloc (.cells (rc r0).toArray 40))) := ⟨K1.out.1.old _, Blk.newAt _ K1.out.2.2.symm, more K1.out.2.1 _⟩
  revert K2
  generalize w1.alloc (.cells (rc r0).toArray 40) = w2
  intro K2
  clear K1
  have c0 : w2.cell? ⟨B, 0, none⟩ = some (.int .i64 (r 0)) := K2.out.1.rc (by decide)
  have c1 : w2.cell? ⟨B, 1, none⟩ = some (.int .i64 (r 1)) := K2.out.1.rc (by decide)
  have c2 : w2.cell? ⟨B, 2, none⟩ = some (.int .i64 (r 2)) := K2.out.1.rc (by decide)
  have c3 : w2.cell? ⟨B, 3, none⟩ = some (.int .i64 (r 3)) := K2.out.1.rc (by decide)
  have c4 : w2.cell? ⟨B, 4, none⟩ = some (.int .i64 (r 4)) := K2.out.1.rc (by decide)
  have c5 : w2.cell? ⟨B, 5, none⟩ = some (.int .i64 (r 5)) := K2.out.1.rc (by decide)
  have c6 : w2.cell? ⟨B, 6, none⟩ = some (.int .i64 (r 6)) := K2.out.1.rc (by decide)
  have c7 : w2.cell? ⟨B, 7, none⟩ = some (.int .i64 (r 7)) := K2.out.1.rc (by decide)
  have c8 : w2.cell? ⟨B, 8, none⟩ = some (.int .i64 (r 8)) := K2.out.1.rc (by decide)
  have c9 : w2.cell? ⟨B, 9, none⟩ = some (.int .i64 (r 9)) := K2.out.1.rc (by decide)
  have c10 : w2.cell? ⟨B, 10, none⟩ = some (.int .i64 (r 10)) := K2.out.1.rc (by decide)
  have c11 : w2.cell? ⟨B, 11, none⟩ = some (.int .i64 (r 11)) := K2.out.1.rc (by decide)
  have c12 : w2.cell? ⟨B, 12, none⟩ = some (.int .i64 (r 12)) := K2.out.1.rc (by decide)
  have c13 : w2.cell? ⟨B, 13, none⟩ = some (.int .i64 (r 13)) := K2.out.1.rc (by decide)
  have c14 : w2.cell? ⟨B, 14, none⟩ = some (.int .i64 (r 14)) := K2.out.1.rc (by decide)
  have HI : Kp ((Tryd.prog.info? 40).map (·.size) = some (rc r).toArray.size ∧ (rc r0).toArray.size = (rc r).toArray.size ∧ (rc r).toArray.all (·.oneCell') = true) := ⟨info40s r, by simp [rc_len], all_oneCell_toArray (rc_one r)⟩
  go_wp2_with (first
    | (refine wpList_build_eq rfl 40 _ rfl _ rfl (rc r).toArray (by kernel_rfl) ?_)
    | (refine wpList_store_row rfl 40 (.tmp 2) (.tmp 50) rfl (B + 1) (rc r).toArray rfl rfl 40 _ K2.out.2.1 HI.out.1 HI.out.2.1 HI.out.2.2 ?_
       have KE : Kp (Blk (w2.setRow (B + 1) (rc r).toArray) (B + 1) (.cells (rc r).toArray 40) ∧ Below w.heap.size w (w2.setRow (B + 1) (rc r).toArray)) := ⟨Blk.setRow K2.out.2.1 _, below_setRow K2.out.2.2 (by rw [HB.out]; exact Nat.le_succ _) _⟩
       revert KE
       generalize w2.setRow (B + 1) (rc r).toArray = w3
       intro KE))
  exact bodyPost_ret (v := .agg (rc r).toArray) (ret10 rfl KE.out.1) rfl ⟨rfl, KE.out.2⟩
end Go.Proofs.YtcppmkblllappaaDoor
