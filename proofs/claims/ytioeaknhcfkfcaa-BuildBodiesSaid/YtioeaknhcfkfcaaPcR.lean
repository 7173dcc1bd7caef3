/-
  How many pieces there are; where there are none.
-/
import Derived.Test.YtioeaknhcfkfcaaPcQ
namespace Go.Proofs.Ytioeaknhcfkfcaa
open Go.RowKit

theorem manyN_is {n sz : Nat} (hs : 1 ≤ sz) : max (((n : Int) + sz - 1) / sz) 1 = ((manyN n sz : Nat) : Int) := by
  have h0 : ((n : Int) + sz - 1) / sz = (((n + sz - 1) / sz : Nat) : Int) := by
    rw [Int.natCast_ediv, Int.natCast_sub (by omega)]
    simp
  have h1 := Nat.div_add_mod n sz
  have h2 := Nat.mod_lt n (show sz > 0 by omega)
  have h3 : n + sz - 1 = sz * (n / sz) + (n % sz + sz - 1) := by omega
  have h4 : (n + sz - 1) / sz = n / sz + (n % sz + sz - 1) / sz := by rw [h3, Nat.mul_add_div (by omega)]
  have h5 : (n % sz + sz - 1) / sz = if n % sz = 0 then 0 else 1 := by
    split
    · exact Nat.div_eq_of_lt (by omega)
    · exact Nat.div_eq_of_lt_le (by omega) (by omega)
  rw [h0, h4, h5]
  unfold manyN
  clear h0 h1 h3 h4 h5
  generalize n / sz = q
  by_cases h6 : n % sz = 0
  · rw [if_pos h6]
    by_cases h7 : q = 0
    · rw [if_pos (.inr h7), h7]; decide
    · rw [if_neg (by simp [h6, h7])]; omega
  · rw [if_neg h6, if_pos (.inl h6)]; omega
theorem manyN_lt {n sz k : Nat} (hk : k < manyN n sz) : k * sz ≤ n := by
  unfold manyN at hk
  have h1 := Nat.div_mul_le_self n sz
  have : k ≤ n / sz := by generalize n / sz = q at *; split at hk <;> omega
  exact Nat.le_trans (Nat.mul_le_mul_right sz this) h1
theorem manyN_pos {n sz : Nat} : 0 < manyN n sz := by unfold manyN; generalize n / sz = q; split <;> omega
set_option maxHeartbeats 1000000 in
/-- Where there are no pieces, both say so alike. -/
theorem split_bad (id sz : Int) (a : Option Addr) (n cap : Nat) (w : World) (hn : n ≤ 20001) (h : sz < 1 ∨ 4096 < sz ∨ 16384 < n) :
    Calls Try.prog 41 #[.int .u32 id, .slice a n cap, .int .i64 sz] w fun r w' => r = .returned (.tuple #[.slice none 0 0, .int .i64 1]) ∧ w = w' := by
  have hc : (sz < 1) ∨ (¬ sz < 1 ∧ 4096 < sz) ∨ (¬ sz < 1 ∧ ¬ 4096 < sz ∧ (16384 : Int) < n) := by omega
  clear h
  rcases hc with h1 | ⟨h1, h2⟩ | ⟨h1, h2, h3⟩
  all_goals
    go_enter Try.func41, Try.ntmps41
    go_wp2_with fail
    exact bodyPost_ret (results_tmp2 rfl _ _ _) rfl ⟨rfl, rfl⟩
set_option maxHeartbeats 1000000 in
theorem rsplit_bad (id sz : Int) (a : Option Addr) (n cap : Nat) (w : World) (hn : n ≤ 20001) (h : sz < 1 ∨ 4096 < sz ∨ 16384 < n) :
    Calls Try.prog 43 #[.int .u32 id, .slice a n cap, .int .i64 sz] w fun r w' => r = .returned (.tuple #[.slice none 0 0, .int .i64 1]) ∧ w = w' := by
  have hc : (sz < 1) ∨ (¬ sz < 1 ∧ 4096 < sz) ∨ (¬ sz < 1 ∧ ¬ 4096 < sz ∧ (16384 : Int) < n) := by omega
  clear h
  rcases hc with h1 | ⟨h1, h2⟩ | ⟨h1, h2, h3⟩
  all_goals
    go_enter Try.func43, Try.ntmps43
    go_wp2_with fail
    exact bodyPost_ret (results_tmp2 rfl _ _ _) rfl ⟨rfl, rfl⟩
set_option maxHeartbeats 1000000 in
theorem split_many (id : Int) (sz n : Nat) (a : Option Addr) (cap : Nat) (w : World) (hs : 1 ≤ sz ∧ sz ≤ 4096) (hn : n ≤ 16384) (hm : 32 < manyN n sz) :
    Calls Try.prog 41 #[.int .u32 id, .slice a n cap, .int .i64 sz] w fun r w' => r = .returned (.tuple #[.slice none 0 0, .int .i64 8]) ∧ w = w' := by
  have h1 : ¬ (sz : Int) < 1 := by omega
  have h2 : ¬ (4096 : Int) < sz := by omega
  have h3 : ¬ (16384 : Int) < n := by omega
  have h4 := manyN_is (n := n) hs.1
  generalize manyN n sz = m at h4 hm
  have h5 : (32 : Int) < m := by omega
  have h0 : ¬ (sz : Int) = 0 := by omega
  go_enter Try.func41, Try.ntmps41
  go_wp2_with fail
  exact bodyPost_ret (results_tmp2 rfl _ _ _) rfl ⟨rfl, rfl⟩
set_option maxHeartbeats 1000000 in
theorem rsplit_many (id : Int) (sz n : Nat) (a : Option Addr) (cap : Nat) (w : World) (hs : 1 ≤ sz ∧ sz ≤ 4096) (hn : n ≤ 16384) (hm : 32 < manyN n sz) :
    Calls Try.prog 43 #[.int .u32 id, .slice a n cap, .int .i64 sz] w fun r w' => r = .returned (.tuple #[.slice none 0 0, .int .i64 8]) ∧ w = w' := by
  have hz1' : ¬ (sz : Int) < 1 := by omega
  have hz2' : ¬ (4096 : Int) < sz := by omega
  have hz3' : ¬ (16384 : Int) < n := by omega
  have hsz0 : ¬ (sz : Int) = 0 := by omega
  have hsz1 : ¬ (sz : Int) = -1 := by omega
  have hm2 : manyN n sz = if n % sz ≠ 0 ∨ n / sz = 0 then n / sz + 1 else n / sz := rfl
  obtain ⟨qt, hqt⟩ : ∃ qt, qt = n / sz := ⟨_, rfl⟩
  obtain ⟨rm, hrm⟩ : ∃ rm, rm = n % sz := ⟨_, rfl⟩
  have hq1 : (n : Int).tdiv sz = (qt : Nat) := by rw [hqt]; rfl
  have hr1 : (n : Int).tmod sz = (rm : Nat) := by rw [hrm]; rfl
  have hqb : qt ≤ 16384 := by rw [hqt]; exact Nat.le_trans (Nat.div_le_self _ _) hn
  rw [← hqt, ← hrm] at hm2
  rw [hm2] at hm
  have hc : (((rm : Int) != 0) = true ∧ (32 : Int) < (qt : Int) + 1) ∨ (((rm : Int) != 0) = false ∧ ((qt : Int) == 0) = false ∧ (32 : Int) < qt) := by
    by_cases h1 : rm = 0
    · by_cases h2 : qt = 0
      · rw [if_pos (.inr h2)] at hm; omega
      · rw [if_neg (by simp [h1, h2])] at hm
        exact .inr ⟨by simp [h1], by simp [h2], by omega⟩
    · rw [if_pos (.inl h1)] at hm
      exact .inl ⟨by simp [h1], by omega⟩
  clear hm hm2 hqt hrm
  rcases hc with ⟨h1, h2⟩ | ⟨h1, h2, h3⟩
  all_goals
    go_enter Try.func43, Try.ntmps43
    go_wp2_with fail
    exact bodyPost_ret (results_tmp2 rfl _ _ _) rfl ⟨rfl, rfl⟩
end Go.Proofs.Ytioeaknhcfkfcaa
