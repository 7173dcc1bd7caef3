/-
  The rules that springs, neighbours, routes and plans may have.
-/
import Derived.Test.YtcppmkblllappaaDoorCfE
namespace Go.Proofs.YtcppmkblllappaaDoor
open Go.RowKit

theorem lev1 (w : World) : Calls Tryd.prog 36 #[.int .i64 1] w fun r w' => r = .returned (.int .i64 0) ∧ w' = w := by
  go_enter Tryd.func36, Tryd.ntmps36
  go_wp2
  go_ret
  exact ⟨rfl, rfl⟩
theorem lev2 (w : World) : Calls Tryd.prog 36 #[.int .i64 2] w fun r w' => r = .returned (.int .i64 1) ∧ w' = w := by
  go_enter Tryd.func36, Tryd.ntmps36
  go_wp2
  go_ret
  exact ⟨rfl, rfl⟩
theorem lev4 (w : World) : Calls Tryd.prog 36 #[.int .i64 4] w fun r w' => r = .returned (.int .i64 2) ∧ w' = w := by
  go_enter Tryd.func36, Tryd.ntmps36
  go_wp2
  go_ret
  exact ⟨rfl, rfl⟩
theorem lev8 (w : World) : Calls Tryd.prog 36 #[.int .i64 8] w fun r w' => r = .returned (.int .i64 3) ∧ w' = w := by
  go_enter Tryd.func36, Tryd.ntmps36
  go_wp2
  go_ret
  exact ⟨rfl, rfl⟩
theorem lev_any (x : Int) (h : x = 1 ∨ x = 2 ∨ x = 4 ∨ x = 8) (w : World) : Calls Tryd.prog 36 #[.int .i64 x] w fun r w' => ∃ n : Int, r = .returned (.int .i64 n) ∧ w' = w ∧ 0 ≤ n := by
  rcases h with rfl | rfl | rfl | rfl
  · exact (lev1 w).mono fun r w' hh => ⟨_, hh.1, hh.2, by decide⟩
  · exact (lev2 w).mono fun r w' hh => ⟨_, hh.1, hh.2, by decide⟩
  · exact (lev4 w).mono fun r w' hh => ⟨_, hh.1, hh.2, by decide⟩
  · exact (lev8 w).mono fun r w' hh => ⟨_, hh.1, hh.2, by decide⟩
def TPost (w : World) (r : Ending) (w' : World) : Prop := r = .returned (.bool true) ∧ Below w.heap.size w w'
theorem spring_any (a b c : Int) (h : a = 1 ∨ a = 2 ∨ a = 4 ∨ a = 8) (hb1 : 1 ≤ b) (hb2 : b ≤ 16) (hc1 : 0 ≤ c) (hc2 : c ≤ 6) (w : World) : Calls Tryd.prog 19 #[.agg #[.int .i64 a, .int .i64 b, .int .i64 c]] w (TPost w) := by
  have HL := fun wx => lev_any a h wx
  clear h
  go_enter Tryd.func19, Tryd.ntmps19
  go_wp2_with fail
  refine (HL _).mono ?_
  rintro r w1 ⟨n, rfl, rfl, hn⟩
  clear HL
  go_wp2_with fail
  go_ret
  exact ⟨rfl, more (Below.refl _ _) _⟩
theorem rib_any (a b : Int) (ha1 : 0 ≤ a) (ha2 : a ≤ 1048576) (hb1 : 1 ≤ b) (hb2 : b ≤ 1048576) (w : World) : Calls Tryd.prog 21 #[.agg #[.int .i64 a, .int .i64 b]] w (TPost w) := by
  go_enter Tryd.func21, Tryd.ntmps21
  go_wp2_with fail
  go_ret
  exact ⟨rfl, more (Below.refl _ _) _⟩
theorem settle_any (a b : Int) (ha1 : 1 ≤ a) (ha2 : a ≤ 1048576) (hb1 : 0 ≤ b) (hb2 : b ≤ 1048576) (w : World) : Calls Tryd.prog 22 #[.agg #[.int .i64 a, .int .i64 b]] w (TPost w) := by
  go_enter Tryd.func22, Tryd.ntmps22
  go_wp2_with fail
  go_ret
  exact ⟨rfl, more (Below.refl _ _) _⟩
end Go.Proofs.YtcppmkblllappaaDoor
