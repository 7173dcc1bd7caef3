/-
  What holds of the window, the counter and the number that waits, round by round of the law WindowOrders. Nothing of the program is named here.
-/
import Derived.Test.YtoembbdjpelogaaWinP
import Derived.Below
namespace Go.Proofs.Ytoembbdjpelogaa
open Go.RowKit (wrap64)

theorem size_is (size : Int) : ∃ s : Nat, 1 ≤ s ∧ s ≤ 64 ∧ wrap64 (1 + wrap64 ((IntKind.u64.wrap size).tmod 64)) = (s : Int) := by
  rw [IntKind.wrap_u64]
  have h0 : 0 ≤ size % 18446744073709551616 := Int.emod_nonneg _ (by omega)
  rw [Int.tmod_eq_emod_of_nonneg h0]
  have h1 := Int.emod_nonneg (size % 18446744073709551616) (show (64 : Int) ≠ 0 by omega)
  have h2 := Int.emod_lt_of_pos (size % 18446744073709551616) (show (0 : Int) < 64 by omega)
  refine ⟨(1 + size % 18446744073709551616 % 64).toNat, by omega, by omega, ?_⟩
  generalize size % 18446744073709551616 % 64 = x at *
  unfold wrap64
  omega

/-- At the head of round i: n is the last number that the counter gave; q waits, or nothing does. -/
structure OrdInv (size boot n wb top tk : Nat) (q : Option Nat) : Prop where
  tk_lt : tk < 18446744073709551616
  is : (wb = 0 ∧ top = 0 ∧ tk = 0) ∨ (wb = boot ∧ top ≤ n)
  wait : ∀ x, q = some x → 3 < size ∧ 1 ≤ x ∧ x ≤ n ∧ n ≤ x + 1 ∧ (wb = boot → top < x ∨ tk.testBit (top - x) = false)

theorem OrdInv.start (size boot n : Nat) : OrdInv size boot n 0 0 0 none := ⟨by omega, .inl ⟨rfl, rfl, rfl⟩, by simp⟩

/-- The next number waits. -/
theorem OrdInv.waits {size boot n wb top tk : Nat} (h : OrdInv size boot n wb top tk none) (hs : 3 < size) : OrdInv size boot (n + 1) wb top tk (some (n + 1)) := by
  refine ⟨h.tk_lt, ?_, ?_⟩
  · rcases h.is with h | h
    · exact .inl h
    · exact .inr ⟨h.1, by omega⟩
  · rintro x ⟨⟩
    refine ⟨hs, by omega, by omega, by omega, fun hb => .inl ?_⟩
    rcases h.is with h | h <;> omega

/-- The next number is fresh. -/
theorem OrdInv.fresh {size boot n wb top tk : Nat} {q : Option Nat} (h : OrdInv size boot n wb top tk q) (hb : boot ≠ 0) : freshN size wb top tk boot (n + 1) = true := by
  unfold freshN
  rcases h.is with ⟨rfl, rfl, rfl⟩ | ⟨rfl, h2⟩
  · rw [if_neg (by omega), if_pos (by omega)]
  · rw [if_neg (by omega), if_pos (by omega)]

theorem take_ok {size wb top tk boot count : Nat} (hb : boot ≠ 0) (hc : count ≠ 0) (h : freshN size wb top tk boot count = true) : takeR size wb top tk boot count = 0 := by
  unfold takeR
  rw [if_neg (by omega), if_pos h]
theorem take_again {size wb top tk boot count : Nat} (hb : boot ≠ 0) (hc : count ≠ 0) (h : freshN size wb top tk boot count = false) : takeR size wb top tk boot count = 25 := by
  unfold takeR
  rw [if_neg (by omega), if_neg (by simp [h])]

/-- It is taken. -/
theorem OrdInv.taken {size boot n wb top tk : Nat} {q : Option Nat} (h : OrdInv size boot n wb top tk q) (hb : boot ≠ 0) :
    takeR size wb top tk boot (n + 1) = 0 ∧ takeB size wb top tk boot (n + 1) = boot ∧ takeT size wb top tk boot (n + 1) = n + 1 ∧
    ∃ k, takeK size wb top tk boot (n + 1) = k ∧ k < 18446744073709551616 ∧ k.testBit 0 = true ∧ ∀ x, q = some x → k.testBit (n + 1 - x) = false := by
  have hf := h.fresh hb
  have hr := take_ok hb (Nat.succ_ne_zero n) hf
  refine ⟨hr, by simp [takeB, hr], ?_, _, rfl, ?_⟩
  · rcases h.is with ⟨rfl, rfl, rfl⟩ | ⟨rfl, h2⟩
    · simp [takeT, hr]
    · simp only [takeT, hr, if_true]
      rw [if_neg (by omega), if_pos (by omega)]
  · rcases h.is with ⟨rfl, rfl, rfl⟩ | ⟨rfl, h2⟩
    · have hk : takeK size 0 0 0 boot (n + 1) = 1 := by
        simp only [takeK, hr, if_true]
        rw [if_pos (by omega)]
      rw [hk]
      refine ⟨by omega, rfl, fun x hx => ?_⟩
      obtain ⟨h1, h2, h3, h4, h5⟩ := h.wait x hx
      rw [show (1 : Nat) = 2 ^ 0 from rfl, Nat.testBit_two_pow]
      simp; omega
    · have hk : takeK size wb top tk wb (n + 1) = (tk * 2 ^ (n + 1 - top) % 18446744073709551616) ||| 1 := by
        simp only [takeK, hr, if_true]
        rw [if_neg (by omega), if_pos (by omega)]
      rw [hk]
      refine ⟨or_lt (Nat.mod_lt _ (by omega)) (by omega), by rw [bits_up]; simp, fun x hx => ?_⟩
      obtain ⟨h1, h3, h4, h5, h6⟩ := h.wait x hx
      rw [bits_up]
      rcases h6 rfl with h7 | h7
      · have e1 : decide (n + 1 - x = 0) = false := by simp; omega
        have e2 : decide (n + 1 - top ≤ n + 1 - x) = false := by simp; omega
        simp only [e1, e2, Bool.false_and, Bool.or_self]
      · have e1 : decide (n + 1 - x = 0) = false := by simp; omega
        by_cases h8 : x ≤ top
        · rw [show n + 1 - x - (n + 1 - top) = top - x by omega, h7]
          simp [e1]
        · have e2 : decide (n + 1 - top ≤ n + 1 - x) = false := by simp; omega
          simp only [e1, e2, Bool.false_and, Bool.or_self]

/-- Behind that. -/
theorem after_take {size boot n k : Nat} (hb : boot ≠ 0) (h0 : k.testBit 0 = true) : freshN size boot (n + 1) k boot (n + 1) = false := by
  unfold freshN
  rw [if_neg (by omega), if_neg (by omega)]
  simp [h0]
theorem again_keeps {size boot n k c : Nat} (hr : takeR size boot n k boot c = 25) : takeB size boot n k boot c = boot ∧ takeT size boot n k boot c = n ∧ takeK size boot n k boot c = k := by
  simp [takeB, takeT, takeK, hr]

/-- The number that waits is taken, once. -/
theorem late_fresh {size boot n k x : Nat} (hb : boot ≠ 0) (h1 : 1 ≤ x) (h2 : x ≤ n) (h3 : n ≤ x + 1) (hs : 3 < size) (hk : k.testBit (n + 1 - x) = false) : freshN size boot (n + 1) k boot x = true := by
  unfold freshN
  rw [if_neg (by omega), if_neg (by omega), hk]
  simp; omega
theorem late_taken {size boot n k x : Nat} (h2 : x ≤ n) (hr : takeR size boot (n + 1) k boot x = 0) : takeB size boot (n + 1) k boot x = boot ∧ takeT size boot (n + 1) k boot x = n + 1 ∧ takeK size boot (n + 1) k boot x = k ||| 2 ^ (n + 1 - x) := by
  refine ⟨by simp [takeB, hr], ?_, ?_⟩
  · simp only [takeT, hr, if_true]
    rw [if_neg (by omega), if_neg (by omega)]
  · simp only [takeK, hr, if_true]
    rw [if_neg (by omega), if_neg (by omega)]
theorem late_after {size boot n k x : Nat} (h2 : x ≤ n) : freshN size boot (n + 1) (k ||| 2 ^ (n + 1 - x)) boot x = false := by
  unfold freshN
  split
  · rfl
  · rw [if_neg (by omega), bits_in]
    simp
theorem OrdInv.goes {size boot n k : Nat} (hk : k < 18446744073709551616) : OrdInv size boot (n + 1) boot (n + 1) k none := ⟨hk, .inr ⟨rfl, Nat.le_refl _⟩, by simp⟩
theorem OrdInv.goesLate {size boot n k x : Nat} (hk : k < 18446744073709551616) (h2 : x ≤ n) (h3 : n ≤ x + 1) : OrdInv size boot (n + 1) boot (n + 1) (k ||| 2 ^ (n + 1 - x)) none :=
  ⟨or_lt hk (pow_lt (by omega)), .inr ⟨rfl, Nat.le_refl _⟩, by simp⟩
theorem OrdInv.still {size boot n k x : Nat} (hk : k < 18446744073709551616) (hs : 3 < size) (h1 : 1 ≤ x) (h2 : x ≤ n) (h3 : n ≤ x) (hb : k.testBit (n + 1 - x) = false) : OrdInv size boot (n + 1) boot (n + 1) k (some x) :=
  ⟨hk, .inr ⟨rfl, Nat.le_refl _⟩, by rintro y ⟨⟩; exact ⟨hs, h1, by omega, by omega, fun _ => .inr hb⟩⟩
end Go.Proofs.Ytoembbdjpelogaa
