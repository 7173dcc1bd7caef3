/-
  The window's bits and the document's list of all that was taken answer one and the same. Nothing of the program is named here.
-/
import Derived.Test.YtoembbdjpelogaaPlaysA
namespace Go.Proofs.Ytoembbdjpelogaa

structure Coh (top tk : Nat) (l : List Nat) : Prop where
  lt : tk < 18446744073709551616
  le : ∀ x, l.contains x = true → x ≤ top
  bit : ∀ c, c ≤ top → top - c < 64 → tk.testBit (top - c) = l.contains c

theorem Coh.start : Coh 0 0 [] := ⟨by omega, by simp, by simp⟩

theorem Coh.fresh {size wb top tk : Nat} {l : List Nat} (h : Coh top tk l) (hs : size ≤ 64) (boot count : Nat) : freshL size wb top l boot count = freshN size wb top tk boot count := by
  unfold freshL freshN
  split
  · rfl
  · split
    · rfl
    · rename_i h1 h2
      by_cases h3 : top - count < size
      · rw [h.bit count (by omega) (by omega)]
      · simp [h3]

theorem Coh.takes {size wb top tk : Nat} {l : List Nat} (h : Coh top tk l) (hs : size ≤ 64) (boot count : Nat) :
    takeLR size wb top l boot count = takeR size wb top tk boot count ∧ takeLB size wb top l boot count = takeB size wb top tk boot count ∧ takeLT size wb top l boot count = takeT size wb top tk boot count := by
  have h1 : takeLR size wb top l boot count = takeR size wb top tk boot count := by unfold takeLR takeR; rw [h.fresh hs]
  refine ⟨h1, ?_, ?_⟩
  · unfold takeLB takeB; rw [h1]
  · unfold takeLT takeT; rw [h1]

theorem contains_append (l : List Nat) (x c : Nat) : (l ++ [x]).contains c = (l.contains c || c == x) := by
  rw [Bool.eq_iff_iff]
  simp

theorem Coh.step {size wb top tk : Nat} {l : List Nat} (h : Coh top tk l) (hs : size ≤ 64) (boot count : Nat) :
    Coh (takeT size wb top tk boot count) (takeK size wb top tk boot count) (takeLL size wb top l boot count) := by
  have hr := (h.takes (wb := wb) hs boot count).1
  refine ⟨takeK_lt hs h.lt, ?_, ?_⟩
  · intro x hx
    unfold takeLL at hx
    unfold takeT
    rw [hr] at hx
    by_cases h0 : takeR size wb top tk boot count = 0
    · rw [if_pos h0] at hx ⊢
      by_cases h1 : wb < boot
      · rw [if_pos h1] at hx ⊢
        simp at hx
        omega
      · rw [if_neg h1] at hx ⊢
        rw [contains_append, Bool.or_eq_true] at hx
        rcases hx with hx | hx
        · have := h.le x hx
          split <;> omega
        · simp at hx
          split <;> omega
    · rw [if_neg h0] at hx ⊢
      exact h.le x hx
  · intro c hc hc2
    by_cases h0 : takeR size wb top tk boot count = 0
    · simp only [takeT, takeK, takeLL, hr, h0, if_true] at hc hc2 ⊢
      by_cases h1 : wb < boot
      · simp only [h1, if_true] at hc hc2 ⊢
        rw [show (1 : Nat) = 2 ^ 0 from rfl, Nat.testBit_two_pow]
        rw [Bool.eq_iff_iff]
        simp
        omega
      · simp only [h1, if_false] at hc hc2 ⊢
        by_cases h2 : top < count
        · simp only [h2, if_true] at hc hc2 ⊢
          rw [bits_up, contains_append]
          by_cases h3 : c = count
          · subst h3
            simp
          · have e1 : decide (count - c = 0) = false := by simp; omega
            have e2 : (c == count) = false := by simp [h3]
            have e3 : decide (count - c < 64) = true := by simp; omega
            by_cases h4 : c ≤ top
            · have e4 : decide (count - top ≤ count - c) = true := by simp; omega
              rw [e1, e2, e3, e4, show count - c - (count - top) = top - c by omega, h.bit c h4 (by omega)]
              simp
            · have e4 : decide (count - top ≤ count - c) = false := by simp; omega
              have e5 : l.contains c = false := by
                rw [Bool.eq_false_iff]
                intro hx
                exact h4 (h.le c hx)
              rw [e1, e2, e4, e5]
              simp
        · simp only [h2, if_false] at hc hc2 ⊢
          rw [bits_in, contains_append, h.bit c hc hc2]
          congr 1
          rw [Bool.eq_iff_iff]
          simp
          have hcnt : count ≤ top := by omega
          omega
    · simp only [takeT, takeK, takeLL, hr, h0, if_false] at hc hc2 ⊢
      exact h.bit c hc hc2

theorem takeLL_length {size wb top : Nat} {l : List Nat} {boot count : Nat} : (takeLL size wb top l boot count).length ≤ l.length + 1 := by
  unfold takeLL
  repeat' split
  all_goals simp
end Go.Proofs.Ytoembbdjpelogaa
