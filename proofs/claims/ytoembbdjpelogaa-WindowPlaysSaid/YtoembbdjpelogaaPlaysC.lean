/-
  The document's Take, whatever the number.
-/
import Derived.Test.YtoembbdjpelogaaPlaysB
import Derived.RegionTactic
import Derived.BigRegion
namespace Go.Proofs.Ytoembbdjpelogaa
open Go.RowKit

set_option maxRecDepth 100000 in
set_option maxHeartbeats 3200000 in
theorem takeL_any (size wb top : Nat) (l : List Nat) (v : Value) (boot count : Nat) (w : World) (hl : l.length ≤ 1000) (hv : HoldsL w v l) (hs : size ≤ 64) (h2 : top ≤ 18446744073709551615) :
    Calls Try.prog 40 #[.agg #[.int .i64 size, .int .u64 wb, .int .u64 top, v], .int .u64 boot, .int .u64 count] w (TakeLPost size wb top l v boot count w) := by
  have hv' := hv
  obtain ⟨a, cap, rfl, ha⟩ := hv'
  have HV := Lib.hid hv
  clear ha hv
  by_cases b0 : boot = 0 ∨ count = 0
  · have hr : takeLR size wb top l boot count = 1 := by simp [takeLR, b0]
    have HP : Hid (∀ w', Below w.heap.size w w' → TakeLPost size wb top l (.slice a l.length cap) boot count w (.returned (.tuple #[.int .i64 (1 : Nat), .agg #[.int .i64 size, .int .u64 wb, .int .u64 top, .slice a l.length cap]])) w') :=
      fun w' hb => TakeLPost.mk (.inl rfl) hr (by simp [takeLB, hr]) (by simp [takeLT, hr]) (by simp [takeLL, hr]) (HV.out.keep hb) hb
    have t0 : ((boot : Int) == 0) = true ∨ ((boot : Int) == 0) = false ∧ ((count : Int) == 0) = true := by
      by_cases h : boot = 0
      · exact .inl (by simp [h])
      · exact .inr ⟨by simp [h], by have : count = 0 := by omega
                                    simp [this]⟩
    clear b0 hr
    rcases t0 with t0 | ⟨t0, t1⟩
    all_goals
      go_enter Try.func40, Try.ntmps40
      go_wp2_with fail
      go_region
      go_wp2_with fail
      refine bodyPost_ret (v := .tuple #[.int .i64 (1 : Nat), .agg #[.int .i64 size, .int .u64 wb, .int .u64 top, .slice a l.length cap]]) (by simp [results, Try.results40, go_sem]) rfl (HP.out _ ?_)
      exact (more (more (Below.refl _ _) _) _).drew
  · have t0 : ((boot : Int) == 0) = false := by simp; omega
    have t1 : ((count : Int) == 0) = false := by simp; omega
    by_cases hf : freshL size wb top l boot count = true
    · have hr : takeLR size wb top l boot count = 0 := by simp [takeLR, b0, hf]
      have hfz : ¬ (boot = 0 ∨ count = 0 ∨ boot < wb) := by
        intro h
        unfold freshL at hf
        rw [if_pos h] at hf
        cases hf
      have HF := Lib.hid hf
      by_cases b3 : wb < boot
      · have HP : Hid (∀ w' v, HoldsL w' v [count] → Below w.heap.size w w' → NewAt w.heap.size v → TakeLPost size wb top l (.slice a l.length cap) boot count w (.returned (.tuple #[.int .i64 (0 : Nat), .agg #[.int .i64 size, .int .u64 boot, .int .u64 count, v]])) w') :=
          fun w' v hh hb hn => TakeLPost.mk (.inr hn) hr (by simp [takeLB, hr]) (by simp [takeLT, hr, b3]) (by simp [takeLL, hr, b3]) hh hb
        have t3 : (wb : Int) < boot := by omega
        clear b0 hf hfz hr b3
        go_enter Try.func40, Try.ntmps40
        go_wp2_with fail
        refine (freshL_any size wb top l _ boot count _ hl ((HV.out.keep (more (Below.refl _ _) _)).keep (more (Below.refl _ _) _)) hs h2).mono ?_
        rintro r w1 ⟨rfl, hb⟩
        rw [HF.out]
        obtain ⟨hbel, hsz, b1, b2⟩ := after_two hb
        obtain ⟨c0, c1, c2, c3, f0, f1, f2, f3⟩ := b1.four
        obtain ⟨d0, d1, d2, d3, g0, g1, g2, g3⟩ := b2.four
        have l1 := b1.lt
        have l2 := b2.lt
        clear hb b1 b2
        go_wp2_with fail
        go_region
        all_goals go_wp2_with fail
        all_goals refine bodyPost_ret (v := .tuple #[.int .i64 (0 : Nat), .agg #[.int .i64 size, .int .u64 boot, .int .u64 count, .slice (some ⟨w1.heap.size, 0, none⟩) 1 1]]) (by simp [results, Try.results40, go_sem, d0, d1, d2, d3, l1, l2]) rfl (HP.out _ _ ?_ ?_ ⟨w1.heap.size, _, _, rfl, by omega⟩)
        · refine ⟨_, 1, rfl, fun _ => ⟨_, _, rfl, fun i hi => ?_⟩⟩
          obtain rfl : i = 0 := by simp at hi; omega
          exact ((Blk.newAt _ (by simp)).draw.cell 0).trans (by simp)
        · repeat (first | exact hbel | refine Below.drew ?_ | refine Below.setCell ?_ (by simp) _ | refine Below.alloc ?_ (by simp; omega) _)
      · obtain rfl : boot = wb := by omega
        exact takeL_more size boot top l a cap count w hl HV.out hs h2 (by omega) (by omega) hf
    · have hf' : freshL size wb top l boot count = false := by simpa using hf
      have hr : takeLR size wb top l boot count = 25 := by simp [takeLR, b0, hf']
      have HP : Hid (∀ w', Below w.heap.size w w' → TakeLPost size wb top l (.slice a l.length cap) boot count w (.returned (.tuple #[.int .i64 (25 : Nat), .agg #[.int .i64 size, .int .u64 wb, .int .u64 top, .slice a l.length cap]])) w') :=
        fun w' hb => TakeLPost.mk (.inl rfl) hr (by simp [takeLB, hr]) (by simp [takeLT, hr]) (by simp [takeLL, hr]) (HV.out.keep hb) hb
      have HF := Lib.hid hf'
      clear b0 hf hf' hr
      go_enter Try.func40, Try.ntmps40
      go_wp2_with fail
      refine (freshL_any size wb top l _ boot count _ hl ((HV.out.keep (more (Below.refl _ _) _)).keep (more (Below.refl _ _) _)) hs h2).mono ?_
      rintro r w1 ⟨rfl, hb⟩
      rw [HF.out]
      obtain ⟨hbel, hsz, b1, b2⟩ := after_two hb
      obtain ⟨c0, c1, c2, c3, f0, f1, f2, f3⟩ := b1.four
      obtain ⟨d0, d1, d2, d3, g0, g1, g2, g3⟩ := b2.four
      clear hb b1 b2
      go_wp2_with fail
      go_region
      go_wp2_with fail
      refine bodyPost_ret (v := .tuple #[.int .i64 (25 : Nat), .agg #[.int .i64 size, .int .u64 wb, .int .u64 top, .slice a l.length cap]]) (by simp [results, Try.results40, go_sem, c0, c1, c2, c3, d0, d1, d2, d3]) rfl (HP.out _ ?_)
      repeat (first | exact hbel | refine Below.drew ?_ | refine Below.setCell ?_ (by simp) _)
end Go.Proofs.Ytoembbdjpelogaa
