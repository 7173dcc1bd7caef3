/-
  The window as numbers: what is fresh, what a take answers, and what the window is then; facts on its bits. Nothing of the program is named here.
-/
import Derived.Laws.Bits64b
namespace Go.Proofs.Ytoembbdjpelogaa

def freshN (size wb top tk boot count : Nat) : Bool :=
  if boot = 0 ∨ count = 0 ∨ boot < wb then false else if wb < boot ∨ top < count then true else decide (top - count < size) && !tk.testBit (top - count)
def takeR (size wb top tk boot count : Nat) : Nat := if boot = 0 ∨ count = 0 then 1 else if freshN size wb top tk boot count = true then 0 else 25
def takeB (size wb top tk boot count : Nat) : Nat := if takeR size wb top tk boot count = 0 then boot else wb
def takeT (size wb top tk boot count : Nat) : Nat := if takeR size wb top tk boot count = 0 then (if wb < boot then count else if top < count then count else top) else top
def takeK (size wb top tk boot count : Nat) : Nat :=
  if takeR size wb top tk boot count = 0 then (if wb < boot then 1 else if top < count then (tk * 2 ^ (count - top) % 18446744073709551616) ||| 1 else tk ||| 2 ^ (top - count)) else tk

/-- The bit, as the program asks for it. -/
theorem bit_eq {tk k : Nat} (ht : tk < 18446744073709551616) (hk : k < 64) : (bits .and .u64 ((tk : Int) / 2 ^ min k 64) 1 == 0) = !tk.testBit k := by
  have h1 : ((tk : Int) / 2 ^ min k 64) = ((tk / 2 ^ k : Nat) : Int) := by
    rw [Nat.min_eq_left (by omega), Int.natCast_ediv]
    simp
  have h2 : tk / 2 ^ k < 18446744073709551616 := Nat.lt_of_le_of_lt (Nat.div_le_self _ _) ht
  have h3 := bits_and_u64_nat (tk / 2 ^ k) 1 h2 (by omega)
  rw [h1]
  rw [show ((1 : Nat) : Int) = 1 from rfl] at h3
  rw [h3, Nat.and_one_is_mod]
  have h4 : tk.testBit k = decide (tk / 2 ^ k % 2 = 1) := by
    rw [Nat.testBit_eq_decide_div_mod_eq]
  rw [h4]
  have := Nat.mod_lt (tk / 2 ^ k) (show 0 < 2 by omega)
  by_cases h : tk / 2 ^ k % 2 = 1
  · simp [h]
  · have : tk / 2 ^ k % 2 = 0 := by omega
    simp [this]

theorem bit_eq' {tk k : Nat} (ht : tk < 18446744073709551616) (hk : k < 64) : (bits .and .u64 ((tk : Int) / 2 ^ k) 1 == 0) = !tk.testBit k := by
  have := bit_eq ht hk
  rwa [Nat.min_eq_left (by omega)] at this

/-- A shift up, as the program makes it. -/
theorem shl_eq {tk d : Nat} : ((tk : Int) * 2 ^ min d 64 % 18446744073709551616) = ((tk * 2 ^ d % 18446744073709551616 : Nat) : Int) := by
  by_cases h : d ≤ 64
  · rw [Nat.min_eq_left h, Int.natCast_emod, Int.natCast_mul]
    simp
  · rw [Nat.min_eq_right (by omega)]
    have h1 : tk * 2 ^ d % 18446744073709551616 = 0 := by
      rw [show d = 64 + (d - 64) by omega, Nat.pow_add]
      exact Nat.mod_eq_zero_of_dvd ⟨tk * 2 ^ (d - 64), by rw [show (2 : Nat) ^ 64 = 18446744073709551616 from rfl]; ac_rfl⟩
    rw [h1, show (2 : Int) ^ 64 = 18446744073709551616 from rfl]
    simp

theorem or_one_eq (x : Nat) (hx : x < 18446744073709551616) : bits .or .u64 (x : Int) 1 = ((x ||| 1 : Nat) : Int) := by
  have := bits_or_u64_nat x 1 hx (by omega)
  simpa using this

theorem pow_eq {k : Nat} (hk : k < 64) : ((2 : Int) ^ min k 64 % 18446744073709551616) = ((2 ^ k : Nat) : Int) := by
  rw [Nat.min_eq_left (by omega)]
  have h : 2 ^ k < 18446744073709551616 := by
    rw [show 18446744073709551616 = 2 ^ 64 from rfl]
    exact Nat.pow_lt_pow_right (by omega) hk
  have h2 : ((2 : Int) ^ k) = ((2 ^ k : Nat) : Int) := by simp
  rw [h2]
  generalize 2 ^ k = x at h ⊢
  omega
theorem pow_lt {k : Nat} (hk : k < 64) : 2 ^ k < 18446744073709551616 := by
  rw [show 18446744073709551616 = 2 ^ 64 from rfl]
  exact Nat.pow_lt_pow_right (by omega) hk
theorem or_lt {a b : Nat} (ha : a < 18446744073709551616) (hb : b < 18446744073709551616) : a ||| b < 18446744073709551616 := by
  rw [show 18446744073709551616 = 2 ^ 64 from rfl] at *
  exact Nat.or_lt_two_pow ha hb
theorem takeK_lt {size wb top tk boot count : Nat} (hs : size ≤ 64) (ht : tk < 18446744073709551616) : takeK size wb top tk boot count < 18446744073709551616 := by
  unfold takeK
  split
  · split
    · omega
    · split
      · exact or_lt (Nat.mod_lt _ (by omega)) (by omega)
      · refine or_lt ht (pow_lt ?_)
        rename_i hr _ _
        unfold takeR at hr
        split at hr
        · omega
        · split at hr
          · rename_i hf
            unfold freshN at hf
            split at hf
            · cases hf
            · split at hf
              · omega
              · simp at hf; omega
          · omega
  · exact ht
/-- The two new numbers of bits, as the program makes them. -/
theorem up_eq {tk count top : Nat} (ht : top < count) (hc : count ≤ 18446744073709551615) :
    bits .or .u64 (IntKind.u64.wrap ((tk : Int) * 2 ^ min (IntKind.u64.wrap ((count : Int) - (top : Int))).toNat 64)) 1 = (((tk * 2 ^ (count - top) % 18446744073709551616) ||| 1 : Nat) : Int) := by
  have h1 : (IntKind.u64.wrap ((count : Int) - (top : Int))).toNat = count - top := by
    rw [IntKind.wrap_u64]; omega
  rw [h1, IntKind.wrap_u64, shl_eq]
  exact or_one_eq _ (Nat.mod_lt _ (by omega))
theorem in_eq {tk count top : Nat} (ht : count ≤ top) (_ : top ≤ 18446744073709551615) (hk : top - count < 64) (h3 : tk < 18446744073709551616) :
    bits .or .u64 (tk : Int) (IntKind.u64.wrap (2 ^ min (IntKind.u64.wrap ((top : Int) - (count : Int))).toNat 64)) = ((tk ||| 2 ^ (top - count) : Nat) : Int) := by
  have h1 : (IntKind.u64.wrap ((top : Int) - (count : Int))).toNat = top - count := by
    rw [IntKind.wrap_u64]; omega
  rw [h1, IntKind.wrap_u64, pow_eq hk]
  exact bits_or_u64_nat _ _ h3 (pow_lt hk)
/-- The bits behind a shift and the first one. -/
theorem bits_up {tk d i : Nat} : ((tk * 2 ^ d % 18446744073709551616) ||| 1).testBit i = (decide (i = 0) || (decide (d ≤ i) && decide (i < 64) && tk.testBit (i - d))) := by
  rw [Nat.testBit_or, show 18446744073709551616 = 2 ^ 64 from rfl, Nat.testBit_mod_two_pow, Nat.testBit_mul_two_pow]
  by_cases hi : i = 0
  · subst hi; simp
  · have h1 : (1 : Nat).testBit i = false := by
      rw [show (1 : Nat) = 2 ^ 0 from rfl, Nat.testBit_two_pow]
      simp; omega
    rw [h1]
    simp [hi]
    by_cases h2 : i < 64 <;> by_cases h3 : d ≤ i <;> simp [h2, h3]
theorem bits_in {tk k i : Nat} : (tk ||| 2 ^ k).testBit i = (tk.testBit i || decide (i = k)) := by
  rw [Nat.testBit_or, Nat.testBit_two_pow]
  congr 1
  simp [eq_comm]
end Go.Proofs.Ytoembbdjpelogaa
