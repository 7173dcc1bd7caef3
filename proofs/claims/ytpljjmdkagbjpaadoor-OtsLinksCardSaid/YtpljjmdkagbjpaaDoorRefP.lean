/-
  The words of a block, as the document's answer makes them: plain lists.
-/
import Derived.Test.YtpljjmdkagbjpaaDoorComp
namespace Go.Proofs.YtpljjmdkagbjpaaDoor
open Go.RowKit

theorem sched_take (l : List Int) (n j : Nat) (h : j ≤ n) : (sched l n).take (16 + j) = sched l j := by
  induction n with
  | zero =>
    obtain rfl : j = 0 := by omega
    rw [List.take_of_length_le (by rw [sched_len]; omega)]
  | succ n ih =>
    by_cases hj : j ≤ n
    · have : sched l (n + 1) = sched l n ++ [w32 (w32 (w32 ((sched l n).getD n 0 + sm0 ((sched l n).getD (n + 1) 0)) + (sched l n).getD (n + 9) 0) + sm1 ((sched l n).getD (n + 14) 0))] := rfl
      rw [this, List.take_append_of_le_length (by rw [sched_len]; omega), ih hj]
    · obtain rfl : j = n + 1 := by omega
      rw [List.take_of_length_le (by rw [sched_len]; omega)]
theorem sched_get (l : List Int) (n j i : Nat) (h : j ≤ n) (hi : i < 16 + j) : (sched l n).getD i 0 = (sched l j).getD i 0 := by
  rw [← sched_take l n j h, take_getD hi]
theorem sched_low (l : List Int) (k : Nat) (h : k < 16) : (sched l 48).getD k 0 = word l k := by
  rw [sched_get l 48 0 k (by omega) (by omega)]
  simp [sched, List.getD_eq_getElem?_getD, h]
theorem sched_high (l : List Int) (k : Nat) (h16 : 16 ≤ k) (h : k < 64) :
    (sched l 48).getD k 0 = (sm1 ((sched l 48).getD (k - 2) 0) + (sched l 48).getD (k - 7) 0 + sm0 ((sched l 48).getD (k - 15) 0) + (sched l 48).getD (k - 16) 0) % 4294967296 := by
  obtain ⟨j, rfl⟩ : ∃ j, k = 16 + j := ⟨k - 16, by omega⟩
  have e : sched l (j + 1) = sched l j ++ [w32 (w32 (w32 ((sched l j).getD j 0 + sm0 ((sched l j).getD (j + 1) 0)) + (sched l j).getD (j + 9) 0) + sm1 ((sched l j).getD (j + 14) 0))] := rfl
  rw [sched_get l 48 (j + 1) (16 + j) (by omega) (by omega), e]
  rw [show 16 + j - 2 = j + 14 by omega, show 16 + j - 7 = j + 9 by omega, show 16 + j - 15 = j + 1 by omega, show 16 + j - 16 = j by omega]
  rw [sched_get l 48 j (j + 14) (by omega) (by omega), sched_get l 48 j (j + 9) (by omega) (by omega), sched_get l 48 j (j + 1) (by omega) (by omega), sched_get l 48 j j (by omega) (by omega)]
  have hl := sched_len l j
  generalize sched l j = S at *
  have e2 : (S ++ [w32 (w32 (w32 (S.getD j 0 + sm0 (S.getD (j + 1) 0)) + S.getD (j + 9) 0) + sm1 (S.getD (j + 14) 0))]).getD (16 + j) 0 = w32 (w32 (w32 (S.getD j 0 + sm0 (S.getD (j + 1) 0)) + S.getD (j + 9) 0) + sm1 (S.getD (j + 14) 0)) := by
    rw [List.getD_eq_getElem?_getD, List.getElem?_append_right (by omega), hl, Nat.sub_self]
    rfl
  rw [e2]
  unfold w32
  simp only [w32_mod]
  omega
theorem sched_step (l : List Int) (k : Nat) (h : k < 64) : (sched l 48).take (k + 1) = (sched l 48).take k ++ [(sched l 48).getD k 0] := by
  have hl : k < (sched l 48).length := by rw [sched_len]; omega
  rw [List.take_succ_eq_append_getElem hl, List.getD_eq_getElem?_getD, List.getElem?_eq_getElem hl]
  rfl
theorem rotrS (x : Int) (n : Nat) (k : Int) (w : World) (hk : k = (n : Int)) (h1 : 1 ≤ n) (h2 : n ≤ 31) : Calls Tryd.prog 102 #[.int .u32 x, .int .u64 k] w fun r w' => r = .returned (.int .u32 (rot x n)) ∧ w' = w :=
  (rotr x n k w hk h1 h2).mono fun _ _ ⟨a, b⟩ => ⟨a, b.symm⟩
end Go.Proofs.YtpljjmdkagbjpaaDoor
