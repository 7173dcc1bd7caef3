/-
  The contracts of the toll's Right and New, and of the law's To.
-/
import Derived.Test.YthhdbniliimonaaTlD
import Derived.LoopTactic
namespace Go.Proofs.Ythhdbniliimonaa
open Go.RowKit
def rate (a b c d : Int) : Value := .agg #[.int .i64 a, .int .i64 b, .int .i64 c, .int .i64 d]
def okU (a b c d : Int) (j : Nat) : Prop := (0 < j → 1 ≤ a ∧ a ≤ 1073741824) ∧ (1 < j → 0 ≤ b ∧ b ≤ 1073741824) ∧ (2 < j → 1 ≤ c ∧ c ≤ 1073741824) ∧ (3 < j → 0 ≤ d ∧ d ≤ 1073741824)
set_option maxHeartbeats 1600000 in
theorem right_any (a b c d : Int) (w : World) :
    Calls Try.prog 9 #[rate a b c d] w fun r w' => r = .returned (.bool (rightV a b c d)) ∧ Below w.heap.size w w' := by
  unfold rate
  go_enter Try.func9, Try.ntmps9
  go_wp2_with fail
  have hB0 := (Blk.new w (.cells #[.int .i64 a, .int .i64 b, .int .i64 c, .int .i64 d] 29)).old (.cells #[.int .i64 1, .int .i64 0, .int .i64 1, .int .i64 0] 52)
  have hB1 := Blk.newAt (w := w.alloc (.cells #[.int .i64 a, .int .i64 b, .int .i64 c, .int .i64 d] 29)) (.cells #[.int .i64 1, .int .i64 0, .int .i64 1, .int .i64 0] 52) (show w.heap.size + 1 = _ by simp)
  have hE := Kp.mk (below_two w (.cells #[.int .i64 a, .int .i64 b, .int .i64 c, .int .i64 d] 29) (.cells #[.int .i64 1, .int .i64 0, .int .i64 1, .int .i64 0] 52))
  revert hB0 hB1 hE
  generalize (w.alloc (.cells #[.int .i64 a, .int .i64 b, .int .i64 c, .int .i64 d] 29)).alloc (.cells #[.int .i64 1, .int .i64 0, .int .i64 1, .int .i64 0] 52) = W
  intro hB0 hB1 hE
  obtain ⟨c0, c1, c2, c3, -⟩ := hB0.four
  obtain ⟨k0, k1, k2, k3, -⟩ := hB1.four
  clear hB0 hB1
  go_wp2_with fail
  have i0 : ∀ w, (Instr.index 52 (.agg #[.int .i64 a, .int .i64 b, .int .i64 c, .int .i64 d]) (.int .i64 0)).run Try.prog w = .ok (.int .i64 a) w := fun w => by kernel_rfl
  have i1 : ∀ w, (Instr.index 52 (.agg #[.int .i64 a, .int .i64 b, .int .i64 c, .int .i64 d]) (.int .i64 1)).run Try.prog w = .ok (.int .i64 b) w := fun w => by kernel_rfl
  have i2 : ∀ w, (Instr.index 52 (.agg #[.int .i64 a, .int .i64 b, .int .i64 c, .int .i64 d]) (.int .i64 2)).run Try.prog w = .ok (.int .i64 c) w := fun w => by kernel_rfl
  have i3 : ∀ w, (Instr.index 52 (.agg #[.int .i64 a, .int .i64 b, .int .i64 c, .int .i64 d]) (.int .i64 3)).run Try.prog w = .ok (.int .i64 d) w := fun w => by kernel_rfl
  go_loopw [4, 5, 16] (fun _ _ i wr => ∃ j : Nat, j ≤ 4 ∧ i = .int .i64 j ∧ Kp (okU a b c d j) ∧ wr = W) (fun _ _ i _ => 4 - (intOf i).toNat)
  case atStart => exact ⟨0, by omega, rfl, ⟨by unfold okU; omega⟩, rfl⟩
  case round =>
    obtain ⟨j, hj, rfl, HK, rfl⟩ := hrel
    have hj' : j = 0 ∨ j = 1 ∨ j = 2 ∨ j = 3 ∨ j = 4 := by omega
    clear hj
    rcases hj' with rfl | rfl | rfl | rfl | rfl
    · go_wp2_with fail
      all_goals first
        | exact ⟨⟨1, by omega, rfl, ⟨by have := HK.out; unfold okU at this ⊢; omega⟩, trivial⟩, by simp [intOf]⟩
        | (go_ret; exact ⟨retb (Bool.eq_iff_iff.2 (by have := HK.out; unfold okU at this; simp [rightV]; omega)), hE.out⟩)
    · go_wp2_with fail
      all_goals first
        | exact ⟨⟨2, by omega, rfl, ⟨by have := HK.out; unfold okU at this ⊢; omega⟩, trivial⟩, by simp [intOf]⟩
        | (go_ret; exact ⟨retb (Bool.eq_iff_iff.2 (by have := HK.out; unfold okU at this; simp [rightV]; omega)), hE.out⟩)
    · go_wp2_with fail
      all_goals first
        | exact ⟨⟨3, by omega, rfl, ⟨by have := HK.out; unfold okU at this ⊢; omega⟩, trivial⟩, by simp [intOf]⟩
        | (go_ret; exact ⟨retb (Bool.eq_iff_iff.2 (by have := HK.out; unfold okU at this; simp [rightV]; omega)), hE.out⟩)
    · go_wp2_with fail
      all_goals first
        | exact ⟨⟨4, by omega, rfl, ⟨by have := HK.out; unfold okU at this ⊢; omega⟩, trivial⟩, by simp [intOf]⟩
        | (go_ret; exact ⟨retb (Bool.eq_iff_iff.2 (by have := HK.out; unfold okU at this; simp [rightV]; omega)), hE.out⟩)
    · go_wp2_with fail
      go_ret
      exact ⟨retb (Bool.eq_iff_iff.2 (by have := HK.out; unfold okU at this; simp [rightV]; omega)), hE.out⟩
theorem info29 : (Try.prog.info? 29).map (·.size) = some 4 := by kernel_rfl
theorem to_any (a b c d : Int) (w : World) :
    Calls Try.prog 8 #[rate a b c d] w fun r w' => r = .returned (rate a b c d) ∧ Below w.heap.size w w' := by
  unfold rate
  go_enter Try.func8, Try.ntmps8
  go_wp2_with fail
  refine bodyPost_ret (results_row rfl _ _ (w.heap.size + 1) 29 _ (0, 0) _ rfl (Blk.newAt _ (by simp)) Try.underlying29 rfl info29) rfl ⟨rfl, below_two w _ _⟩
theorem new_yes (a b c d : Int) (w : World) (h : rightV a b c d = true) :
    Calls Try.prog 7 #[rate a b c d] w fun r w' => ∃ t, r = .returned (.tuple #[.pointer (some ⟨t, 0, none⟩), .int .i64 0]) ∧ w.heap.size ≤ t ∧ Blk w' t (TS.mk a b c d a c 0).obj ∧ Below w.heap.size w w' := by
  have H := Kp.mk h
  clear h
  have HR := fun w1 => right_any a b c d w1
  unfold rate at HR ⊢
  go_enter Try.func7, Try.ntmps7
  go_wp2_with fail
  refine (HR _).mono ?_
  rintro r w1 ⟨rfl, hb⟩
  rw [H.out]
  obtain ⟨h1, h2, h3⟩ := after_one hb
  have K := Kp.mk (And.intro h1 h2)
  obtain ⟨c0, c1, c2, c3, -⟩ := h3.four
  clear hb h1 h2 h3
  go_wp2_with fail
  go_ret2
  exact ⟨_, rfl, by have := K.out.2; omega, Blk.new _ _, more K.out.1 _⟩
theorem new_no (a b c d : Int) (w : World) (h : rightV a b c d = false) :
    Calls Try.prog 7 #[rate a b c d] w fun r w' => r = .returned (.tuple #[.pointer none, .int .i64 1]) ∧ Below w.heap.size w w' := by
  have H := Kp.mk h
  clear h
  have HR := fun w1 => right_any a b c d w1
  unfold rate at HR ⊢
  go_enter Try.func7, Try.ntmps7
  go_wp2_with fail
  refine (HR _).mono ?_
  rintro r w1 ⟨rfl, hb⟩
  rw [H.out]
  obtain ⟨h1, h2, h3⟩ := after_one hb
  have K := Kp.mk (And.intro h1 h2)
  clear hb h1 h2 h3
  go_wp2_with fail
  go_ret2
  exact ⟨rfl, K.out.1⟩
theorem rnew_any (a b c d : Int) (w : World) :
    Calls Try.prog 12 #[rate a b c d] w fun r w' => r = .returned (TS.mk a b c d a c 0).val ∧ Below w.heap.size w w' := by
  unfold rate TS.val
  go_enter Try.func12, Try.ntmps12
  go_wp2_with fail
  refine bodyPost_ret (results_row rfl _ _ (w.heap.size + 1) 35 _ (0, 0) _ rfl (Blk.newAt _ (by simp)) Try.underlying35 rfl info35) rfl ⟨rfl, below_two w _ _⟩
def mostV (a b c d n : Int) : Int := if rightV a b c d = true ∧ 0 ≤ n ∧ n ≤ 1073741824 then c + d * n else 0
end Go.Proofs.Ythhdbniliimonaa
