/-
  Rules as the program's; the examples of the document.
-/
import Derived.Test.YtcppmkblllappaaDoorCfF
namespace Go.Proofs.YtcppmkblllappaaDoor
open Go.RowKit

theorem info40s (f : Nat → Int) : (Tryd.prog.info? 40).map (·.size) = some (rc f).toArray.size := by kernel_rfl
theorem ret12 {tmps : Array Value} {w : World} {f : Nat → Int} {g : Nat} (h2 : tmps.getD 2 undef = .pointer (some ⟨g, 0, none⟩)) (hg : Blk w g (rObj f)) : (results Tryd.f12 tmps).run Tryd.prog w = .ok (.agg (rc f).toArray) w :=
  results_cell_row (P := Tryd.prog) Tryd.results12 tmps w g 33 (rc f).toArray (0, 0) _ h2 hg Tryd.underlying33 rfl (info33s f)
set_option maxRecDepth 100000 in
set_option maxHeartbeats 3200000 in
theorem to_any (r : Nat → Int) (w : World) : Calls Tryd.prog 12 #[.agg (rc r).toArray] w fun e w' => e = .returned (.agg (rc r).toArray) ∧ Below w.heap.size w w' := by
  have hA := fun (w : World) => box_row (t := 40) (cs := rc r) (info40s r) w
  have HZ := wZ
  obtain ⟨B, hB⟩ : ∃ B, B = w.heap.size := ⟨_, rfl⟩
  have HB := Kp.mk hB
  obtain ⟨w1, hw1⟩ : ∃ w1, w1 = w.alloc (.cells (rc r).toArray 40) := ⟨_, rfl⟩
  have HW1 := Kp.mk hw1
  have K1 : Kp (Blk w1 B (.cells (rc r).toArray 40) ∧ Below w.heap.size w w1 ∧ w1.heap.size = B + 1) := ⟨by rw [hw1]; exact Blk.newAt _ hB, by rw [hw1]; exact more (Below.refl _ _) _, by rw [hw1, hB]; simp⟩
  clear hB hw1
  go_enter Tryd.func12, Tryd.ntmps12
  go_upto_region 1 with (first
    | (refine wpList_box_eq rfl 40 (.tmp 0) rfl _ rfl _ _ (hA _) ?_)
    | (refine wpList_alloc_row rfl 33 rfl (rc r0).toArray 15 HZ.out.2.2 ?_))
  rw [← HW1.out, ← HB.out, K1.out.2.2]
  clear hA HW1
  have K2 : Kp (Blk (w1.alloc (rObj r0)) B (.cells (rc r).toArray 40) ∧ Blk (w1.alloc (rObj r0)) (B + 1) (rObj r0) ∧ Below w.heap.size w (w1.alloc (rObj r0))) := ⟨K1.out.1.old _, Blk.newAt _ K1.out.2.2.symm, more K1.out.2.1 _⟩
  revert K2
  generalize w1.alloc (rObj r0) = w2
  intro K2
  clear K1
  have c0 : w2.cell? ⟨B, 0, none⟩ = some (.int .i64 (r 0)) := K2.out.1.rc (by decide)
  have c1 : w2.cell? ⟨B, 1, none⟩ = some (.int .i64 (r 1)) := K2.out.1.rc (by decide)
  have c2 : w2.cell? ⟨B, 2, none⟩ = some (.int .i64 (r 2)) := K2.out.1.rc (by decide)
  have c3 : w2.cell? ⟨B, 3, none⟩ = some (.int .i64 (r 3)) := K2.out.1.rc (by decide)
  have c4 : w2.cell? ⟨B, 4, none⟩ = some (.int .i64 (r 4)) := K2.out.1.rc (by decide)
  have c5 : w2.cell? ⟨B, 5, none⟩ = some (.int .i64 (r 5)) := K2.out.1.rc (by decide)
  have c6 : w2.cell? ⟨B, 6, none⟩ = some (.int .i64 (r 6)) := K2.out.1.rc (by decide)
  have c7 : w2.cell? ⟨B, 7, none⟩ = some (.int .i64 (r 7)) := K2.out.1.rc (by decide)
  have c8 : w2.cell? ⟨B, 8, none⟩ = some (.int .i64 (r 8)) := K2.out.1.rc (by decide)
  have c9 : w2.cell? ⟨B, 9, none⟩ = some (.int .i64 (r 9)) := K2.out.1.rc (by decide)
  have c10 : w2.cell? ⟨B, 10, none⟩ = some (.int .i64 (r 10)) := K2.out.1.rc (by decide)
  have c11 : w2.cell? ⟨B, 11, none⟩ = some (.int .i64 (r 11)) := K2.out.1.rc (by decide)
  have c12 : w2.cell? ⟨B, 12, none⟩ = some (.int .i64 (r 12)) := K2.out.1.rc (by decide)
  have c13 : w2.cell? ⟨B, 13, none⟩ = some (.int .i64 (r 13)) := K2.out.1.rc (by decide)
  have c14 : w2.cell? ⟨B, 14, none⟩ = some (.int .i64 (r 14)) := K2.out.1.rc (by decide)
  have HI : Kp ((Tryd.prog.info? 33).map (·.size) = some (rc r).toArray.size ∧ (rc r0).toArray.size = (rc r).toArray.size ∧ (rc r).toArray.all (·.oneCell') = true) := ⟨info33s r, by simp [rc_len], all_oneCell_toArray (rc_one r)⟩
  go_wp2_with (first
    | (refine wpList_build_eq rfl 33 _ rfl _ rfl (rc r).toArray (by kernel_rfl) ?_)
    | (refine wpList_store_row rfl 33 (.tmp 2) (.tmp 38) rfl (B + 1) (rc r).toArray rfl rfl 33 _ K2.out.2.1 HI.out.1 HI.out.2.1 HI.out.2.2 ?_
       have KE : Kp (Blk (w2.setRow (B + 1) (rc r).toArray) (B + 1) (rObj r) ∧ Below w.heap.size w (w2.setRow (B + 1) (rc r).toArray)) := ⟨Blk.setRow K2.out.2.1 _, below_setRow K2.out.2.2 (by rw [HB.out]; exact Nat.le_succ _) _⟩
       revert KE
       generalize w2.setRow (B + 1) (rc r).toArray = w3
       intro KE))
  exact bodyPost_ret (v := .agg (rc r).toArray) (ret12 rfl KE.out.1) rfl ⟨rfl, KE.out.2⟩
end Go.Proofs.YtcppmkblllappaaDoor
