/-
  What was laid is what is taken: plain arithmetic.
-/
import Derived.Test.YtgpjffchpppceaaLaidM
import Derived.Test.YtgpjffchpppceaaInD
namespace Go.Proofs.Ytgpjffchpppceaa
open Go.RowKit

theorem digs_succ (n : Int) (k : Nat) : digs n (k + 1) = digs (n / 256) k ++ [n % 256] := by
  unfold digs
  rw [List.range_succ, List.map_append]
  congr 1
  · apply List.map_congr_left
    intro i hi
    have hi' := List.mem_range.1 hi
    have e : k + 1 - 1 - i = (k - 1 - i) + 1 := by omega
    rw [e, Int.pow_succ, Int.mul_comm, ← Int.ediv_ediv_of_nonneg (by omega)]
  · simp
theorem numOf_digs : ∀ (k : Nat) (n : Int), 0 ≤ n → n < 256 ^ k → k ≤ 8 → numOf (digs n k) = n := by
  intro k
  induction k with
  | zero =>
    intro n h0 h1 _
    have : n = 0 := by simpa using (show n < 1 ∧ 0 ≤ n from ⟨by simpa using h1, h0⟩) |> fun h => by omega
    subst this
    rfl
  | succ k ih =>
    intro n h0 h1 h8
    rw [digs_succ, numOf_snoc, ih (n / 256) (by omega) (by rw [Int.pow_succ] at h1; omega) (by omega)]
    have h2 : (256 : Int) ^ (k + 1) ≤ 256 ^ 8 := by
      have e : (256 : Int) ^ 8 = 256 ^ (k + 1) * 256 ^ (8 - (k + 1)) := by rw [← Int.pow_add]; congr 1; omega
      have h3 : (0 : Int) < 256 ^ (k + 1) := Int.pow_pos (by omega)
      have h4 : (1 : Int) ≤ 256 ^ (8 - (k + 1)) := Int.pow_pos (by omega)
      rw [e]
      have := Int.mul_le_mul_of_nonneg_left h4 (Int.le_of_lt h3)
      omega
    have h3 : (256 : Int) ^ 8 = 18446744073709551616 := by decide
    rw [Int.emod_eq_of_lt (by omega) (by omega)]
    omega
theorem next_app {p R : List Int} {k : Nat} (h : p.length = k) : nextP (p ++ R) 0 k = p ∧ nextL (p ++ R) 0 k = R ∧ nextE (p ++ R) 0 k = 0 := by
  have h1 : k ≤ (p ++ R).length := by rw [List.length_append]; omega
  unfold nextP nextL nextE
  rw [if_pos ⟨rfl, h1⟩, if_pos ⟨rfl, h1⟩, if_neg (by omega)]
  subst h
  simp
theorem sum_app {p R : List Int} (h : p.length = 16) : sumP (p ++ R) 0 = p ∧ nextL (p ++ R) 0 16 = R ∧ nextE (p ++ R) 0 16 = 0 := by
  refine ⟨?_, (next_app h).2⟩
  unfold sumP
  rw [if_pos ⟨rfl, by rw [List.length_append]; omega⟩, List.take_append_of_le_length (by omega), List.take_of_length_le (by omega)]
theorem many_app {R : List Int} {n : Nat} {k : Nat} {most : Int} (hk : k ≤ 2) (hn : (n : Int) < 256 ^ k) (hm : (n : Int) ≤ most) : manyR (digs n k ++ R) 0 k most = n ∧ manyL (digs n k ++ R) 0 k most = R ∧ manyE (digs n k ++ R) 0 k most = 0 := by
  obtain ⟨h1, h2, h3⟩ := next_app (p := digs n k) (R := R) (digs_len _ _)
  have h4 : numOf (digs (n : Int) k) = n := numOf_digs k n (by omega) hn (by omega)
  have hb : manyB (digs n k ++ R) 0 k most = false := by
    unfold manyB
    rw [h1, h4]
    apply decide_eq_false
    split <;> omega
  unfold manyR manyL manyE
  rw [hb, h1, h2, h3, h4]
  exact ⟨rfl, rfl, rfl⟩
theorem sums_app {S R : List Int} {n : Nat} (hS : S.length = n * 16) (hn : (n : Int) < 256 ^ 1) : sumsP (digs n 1 ++ (S ++ R)) 0 255 = S ∧ sumsL (digs n 1 ++ (S ++ R)) 0 255 = R ∧ sumsE (digs n 1 ++ (S ++ R)) 0 255 = 0 := by
  obtain ⟨h1, h2, h3⟩ := many_app (R := S ++ R) (n := n) (k := 1) (most := 255) (by omega) hn (by simp at hn; omega)
  unfold sumsP sumsL sumsE sumsN
  rw [h1, h2, h3]
  exact next_app (by simpa using hS)
theorem blob_app {B R : List Int} (hB : B.length ≤ 4096) : blobP (digs B.length 2 ++ (B ++ R)) 0 4096 = B ∧ blobL (digs B.length 2 ++ (B ++ R)) 0 4096 = R ∧ blobE (digs B.length 2 ++ (B ++ R)) 0 4096 = 0 := by
  obtain ⟨h1, h2, h3⟩ := many_app (R := B ++ R) (n := B.length) (k := 2) (most := 4096) (by omega) (by simp; omega) (by omega)
  have e : (if (4096 : Int) < 4096 then (4096 : Int) else 4096) = 4096 := by decide
  unfold blobP blobL blobE blobN
  rw [e, h1, h2, h3]
  exact next_app (by simp)
theorem encU_more (D : Nat → It) (i : Nat) : ∀ m, i ≤ m → ∃ X, encU D m = encU D i ++ X := by
  intro m
  induction m with
  | zero => intro h; obtain rfl : i = 0 := by omega
            exact ⟨[], by simp⟩
  | succ m ih =>
    intro h
    by_cases e : i = m + 1
    · subst e; exact ⟨[], by simp⟩
    · obtain ⟨X, hX⟩ := ih (by omega)
      exact ⟨X ++ enc (D m), by show encU D m ++ enc (D m) = _; rw [hX, List.append_assoc]⟩
def restU (D : Nat → It) (len i : Nat) : List Int := (encU D len).drop (encU D i).length
theorem restU_none (D : Nat → It) (len : Nat) : restU D len 0 = encU D len := rfl
theorem restU_all (D : Nat → It) (len : Nat) : restU D len len = [] := by unfold restU; simp
theorem restU_step (D : Nat → It) {len i : Nat} (h : i < len) : restU D len i = enc (D i) ++ restU D len (i + 1) := by
  obtain ⟨X, hX⟩ := encU_more D (i + 1) len h
  have e : encU D (i + 1) = encU D i ++ enc (D i) := rfl
  unfold restU
  rw [hX, List.drop_left, e, List.append_assoc, List.drop_left]
theorem badU_each (D : Nat → It) : ∀ len, badU D len = false → ∀ i, i < len → bad (D i) = false := by
  intro len
  induction len with
  | zero => intro _ i hi; omega
  | succ m ih =>
    intro h i hi
    have h' : (badU D m || bad (D m)) = false := h
    simp only [Bool.or_eq_false_iff] at h'
    by_cases e : i = m
    · subst e; exact h'.2
    · exact ih h'.1 i (by omega)
theorem encU_len (D : Nat → It) (n : Nat) (h : ∀ i, i < n → (enc (D i)).length ≤ 6000) : (encU D n).length ≤ n * 6000 := by
  induction n with
  | zero => simp [encU]
  | succ m ih =>
    have h1 := ih fun i hi => h i (by omega)
    have h2 := h m (by omega)
    show (encU D m ++ enc (D m)).length ≤ _
    rw [List.length_append]
    omega
end Go.Proofs.Ytgpjffchpppceaa
