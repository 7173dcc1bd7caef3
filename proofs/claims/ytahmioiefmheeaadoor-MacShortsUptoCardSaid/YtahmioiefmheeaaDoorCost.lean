/-
  mac.Cost, the document's Cost.
-/
import Derived.Test.YtahmioiefmheeaaDoorAwake
namespace Go.Proofs.YtahmioiefmheeaaDoor
open Go.RowKit

/-- How many blocks a tag takes. -/
def costI (k n : Int) : Int := (if 64 < k then blkI k else 0) + blkI n + 3
theorem blkI_bound (n : Int) (h0 : 0 ≤ n) (h : n ≤ 1000000) : 1 ≤ blkI n ∧ blkI n ≤ 20000 := by
  unfold blkI
  rw [if_neg (by omega)]
  split <;> omega
set_option maxRecDepth 100000 in
set_option maxHeartbeats 400000 in
theorem cost_any (k n : Int) (w : World) (h0 : 0 ≤ k) (h1 : k ≤ 1000000) (h2 : 0 ≤ n) (h3 : n ≤ 1000000) :
    Calls Tryd.prog 83 #[.int .i64 k, .int .i64 n] w fun r w' => r = .returned (.int .i64 (costI k n)) ∧ w' = w := by
  obtain ⟨b1, b2⟩ := blkI_bound n h2 h3
  obtain ⟨c1, c2⟩ := blkI_bound k h0 h1
  have HN : Kp (∀ w, Calls Tryd.prog 58 #[.int .i64 n] w fun r w' => r = .returned (.int .i64 (blkI n)) ∧ w' = w) := ⟨fun w => blocks_any n w (by omega)⟩
  have HK : Kp (∀ w, Calls Tryd.prog 58 #[.int .i64 k] w fun r w' => r = .returned (.int .i64 (blkI k)) ∧ w' = w) := ⟨fun w => blocks_any k w (by omega)⟩
  have HC : Kp (costI k n = (if 64 < k then blkI k else 0) + blkI n + 3) := ⟨rfl⟩
  generalize costI k n = C at *
  generalize blkI n = x at *
  generalize blkI k = y at *
  by_cases hb : 64 < k
  · have HC2 : Kp (C = y + x + 3) := ⟨by rw [HC.out, if_pos hb]⟩
    go_enter Tryd.func83, Tryd.ntmps83
    go_wp2_with fail
    refine (HN.out _).mono ?_
    rintro r w1 ⟨rfl, rfl⟩
    go_wp2_with fail
    refine (HK.out _).mono ?_
    rintro r w1 ⟨rfl, rfl⟩
    go_wp2_with fail
    go_ret
    exact ⟨reti (by rw [HC2.out]; omega), rfl⟩
  · have HC2 : Kp (C = x + 3) := ⟨by rw [HC.out, if_neg hb]; omega⟩
    go_enter Tryd.func83, Tryd.ntmps83
    go_wp2_with fail
    refine (HN.out _).mono ?_
    rintro r w1 ⟨rfl, rfl⟩
    go_wp2_with fail
    go_ret
    exact ⟨reti (by rw [HC2.out]; omega), rfl⟩
end Go.Proofs.YtahmioiefmheeaaDoor
