/-
  The best of a row of keys, and the row's cells: no word of the program but the values.
-/
import Derived.Test.YtoembbdjpelogaaRank
import Derived.Lib.Hide
namespace Go.Proofs.Ytoembbdjpelogaa

abbrev K3 := Int × Int × Int
def btr (x y : K3) : Bool := betterB x.1 x.2.1 x.2.2 y.1 y.2.1 y.2.2
def cmp3 (x y : K3) : Int := compareI x.1 x.2.1 x.2.2 y.1 y.2.1 y.2.2
theorem cmp3_pos (x y : K3) : decide (0 < cmp3 x y) = btr x y := by
  unfold cmp3 btr compareI betterB
  rw [Bool.eq_iff_iff, decide_eq_true_eq, decide_eq_true_eq]
  repeat' split
  all_goals omega
theorem btr_self (x : K3) : btr x x = false := by
  unfold btr betterB
  rw [decide_eq_false_iff_not]
  omega
theorem btr_not {x y z : K3} (h1 : btr z y = false) (h2 : btr x y = true) : btr z x = false := by
  unfold btr betterB at *
  rw [decide_eq_false_iff_not] at *
  rw [decide_eq_true_eq] at h2
  omega
theorem btr_up {x y z : K3} (h1 : btr z y = false) (h2 : btr x y = true) : btr x z = true := by
  unfold btr betterB at *
  rw [decide_eq_false_iff_not] at h1
  rw [decide_eq_true_eq] at *
  omega

def IsBest (f : Nat → K3) (n : Nat) (r : Int) : Prop :=
  (n = 0 ∧ r = -1) ∨ ∃ b : Nat, b < n ∧ r = b ∧ (∀ j, j < n → btr (f j) (f b) = false) ∧ ∀ j, j < b → btr (f b) (f j) = true
theorem IsBest.first (f : Nat → K3) : IsBest f 1 (0 : Nat) := by
  refine .inr ⟨0, by omega, rfl, fun j hj => ?_, fun j hj => by omega⟩
  obtain rfl : j = 0 := by omega
  exact btr_self _
theorem IsBest.up {f : Nat → K3} {n b : Nat} (h : IsBest f n b) (hb : btr (f n) (f b) = true) : IsBest f (n + 1) n := by
  rcases h with ⟨_, h⟩ | ⟨c, hc, e, h1, h2⟩
  · omega
  · obtain rfl : b = c := by omega
    refine .inr ⟨n, by omega, rfl, fun j hj => ?_, fun j hj => btr_up (h1 j hj) hb⟩
    by_cases hjn : j = n
    · rw [hjn]; exact btr_self _
    · exact btr_not (h1 j (by omega)) hb
theorem IsBest.stay {f : Nat → K3} {n b : Nat} (h : IsBest f n b) (hb : btr (f n) (f b) = false) : IsBest f (n + 1) b := by
  rcases h with ⟨_, h⟩ | ⟨c, hc, e, h1, h2⟩
  · omega
  · obtain rfl : b = c := by omega
    refine .inr ⟨b, by omega, rfl, fun j hj => ?_, h2⟩
    by_cases hjn : j = n
    · rw [hjn]; exact hb
    · exact h1 j (by omega)

/-- The cells of the first n keys. -/
def cells3 (f : Nat → K3) : Nat → List Value
  | 0 => []
  | n + 1 => cells3 f n ++ [.int .u32 (f n).1, .int .u32 (f n).2.1, .int .i64 (f n).2.2]
theorem cells3_length (f : Nat → K3) : ∀ n, (cells3 f n).length = n * 3
  | 0 => rfl
  | n + 1 => by simp [cells3, cells3_length f n]; omega
theorem cells3_at (f : Nat → K3) : ∀ (n i : Nat), i < n → (cells3 f n)[i * 3]? = some (.int .u32 (f i).1) ∧ (cells3 f n)[i * 3 + 1]? = some (.int .u32 (f i).2.1) ∧ (cells3 f n)[i * 3 + 2]? = some (.int .i64 (f i).2.2)
  | 0, i, h => by omega
  | n + 1, i, h => by
    have hl := cells3_length f n
    by_cases hin : i < n
    · obtain ⟨a, b, c⟩ := cells3_at f n i hin
      unfold cells3
      rw [List.getElem?_append_left (by omega), List.getElem?_append_left (by omega), List.getElem?_append_left (by omega)]
      exact ⟨a, b, c⟩
    · obtain rfl : i = n := by omega
      unfold cells3
      rw [List.getElem?_append_right (by omega), List.getElem?_append_right (by omega), List.getElem?_append_right (by omega), hl]
      refine ⟨?_, ?_, ?_⟩
      · rw [Nat.sub_self]; rfl
      · rw [show i * 3 + 1 - i * 3 = 1 by omega]; rfl
      · rw [show i * 3 + 2 - i * 3 = 2 by omega]; rfl

/-- A slice of n keys. -/
def HoldsK (w : World) (a : Option Addr) (n : Nat) (f : Nat → K3) : Prop :=
  0 < n → ∃ b off, a = some ⟨b, off, none⟩ ∧ b < w.heap.size ∧ ∀ i, i < n → w.cell? ⟨b, off + i * 3, none⟩ = some (.int .u32 (f i).1) ∧ w.cell? ⟨b, off + i * 3 + 1, none⟩ = some (.int .u32 (f i).2.1) ∧ w.cell? ⟨b, off + i * 3 + 2, none⟩ = some (.int .i64 (f i).2.2)
theorem HoldsK.keep {w w' : World} {a : Option Addr} {n : Nat} {f : Nat → K3} (h : HoldsK w a n f) (hb : RowKit.Below w.heap.size w w') : HoldsK w' a n f := by
  intro h0
  obtain ⟨b, off, e, hlt, hc⟩ := h h0
  refine ⟨b, off, e, Nat.lt_of_lt_of_le hlt hb.size, fun i hi => ?_⟩
  obtain ⟨h1, h2, h3⟩ := hc i hi
  exact ⟨(hb.cell (p := ⟨b, off + i * 3, none⟩) hlt).trans h1, (hb.cell (p := ⟨b, off + i * 3 + 1, none⟩) hlt).trans h2, (hb.cell (p := ⟨b, off + i * 3 + 2, none⟩) hlt).trans h3⟩
end Go.Proofs.Ytoembbdjpelogaa
