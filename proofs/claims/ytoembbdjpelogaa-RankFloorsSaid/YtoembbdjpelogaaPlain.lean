/-
  Plain functions on numbers that tell what the small functions of the packages rank and fingerpostref01 answer, and small facts on them. Nothing of the program is named here.
-/
import Derived.Below
namespace Go.Proofs.Ytoembbdjpelogaa

theorem ret_bool {a b : Bool} (h : a = b) : Ending.returned (.bool a) = Ending.returned (.bool b) := by rw [h]
theorem ret_int {k : IntKind} {a b : Int} (h : a = b) : Ending.returned (.int k a) = .returned (.int k b) := by rw [h]
theorem bool_is {b : Bool} {p : Prop} [Decidable p] (h : b = true ↔ p) : b = decide p := by
  rw [Bool.eq_iff_iff, h, decide_eq_true_eq]

def rightB (e s m : Int) : Bool := decide (e ≤ 65536 ∧ s < 64 ∧ 0 ≤ m ∧ m ≤ 15)
def cmpI (a b : Int) : Int := if a < b then -1 else if b < a then 1 else 0
def compareI (e s m e' s' m' : Int) : Int := if e < e' then -1 else if e' < e then 1 else if s < s' then -1 else if s' < s then 1 else if m' < m then -1 else if m < m' then 1 else 0
def betterB (e s m e' s' m' : Int) : Bool := decide (e' < e ∨ e = e' ∧ (s' < s ∨ s = s' ∧ m < m'))
def newerB (e s e' s' : Int) : Bool := decide (e' < e ∨ e = e' ∧ s' < s)

theorem right_yes {e s m : Int} (h1 : e ≤ 65536) (h2 : s < 64) (h3 : 0 ≤ m) (h4 : m ≤ 15) : rightB e s m = true := decide_eq_true ⟨h1, h2, h3, h4⟩
theorem right_is {e s m : Int} (h : rightB e s m = true) : e ≤ 65536 ∧ s < 64 ∧ 0 ≤ m ∧ m ≤ 15 := of_decide_eq_true h
theorem right_zero : rightB 0 0 0 = true := rfl

theorem better_e {e s m e' s' m' : Int} (h : (e != e') = true) : decide (e' < e) = betterB e s m e' s' m' := by
  rw [bne_iff_ne] at h
  refine bool_is ?_
  simp only [decide_eq_true_eq]
  omega
theorem better_s {e s m e' s' m' : Int} (h : (e != e') = false) (h2 : (s != s') = true) : decide (s' < s) = betterB e s m e' s' m' := by
  rw [bne_iff_ne] at h2
  have h' : e = e' := by simpa using h
  refine bool_is ?_
  simp only [decide_eq_true_eq]
  omega
theorem better_m {e s m e' s' m' : Int} (h : (e != e') = false) (h2 : (s != s') = false) : decide (m < m') = betterB e s m e' s' m' := by
  have h' : e = e' := by simpa using h
  have h2' : s = s' := by simpa using h2
  refine bool_is ?_
  simp only [decide_eq_true_eq]
  omega

theorem compare_up {e s m e' s' m' : Int} (h : betterB e s m e' s' m' = true) : 1 = compareI e s m e' s' m' := by
  have h := of_decide_eq_true h
  unfold compareI; repeat' split <;> omega
theorem compare_down {e s m e' s' m' : Int} (h : betterB e' s' m' e s m = true) : -1 = compareI e s m e' s' m' := by
  have h := of_decide_eq_true h
  unfold compareI; repeat' split <;> omega
theorem compare_same {e s m e' s' m' : Int} (h : betterB e s m e' s' m' = false) (h2 : betterB e' s' m' e s m = false) : 0 = compareI e s m e' s' m' := by
  have h := of_decide_eq_false h
  have h2 := of_decide_eq_false h2
  unfold compareI; repeat' split <;> omega

/-- What a key one hop farther is: its three numbers, and the error's. -/
def hopE (e s m : Int) : Int := if rightB e s m && !(m == 15) then e else 0
def hopS (e s m : Int) : Int := if rightB e s m && !(m == 15) then s else 0
def hopM (e s m : Int) : Int := if rightB e s m && !(m == 15) then m + 1 else 0
def hopR (e s m : Int) : Int := if rightB e s m then (if m == 15 then 8 else 0) else 1

/-- Whether there is a next sequence of the same epoch. -/
def nextOk (e s m h : Int) : Bool := rightB e s m && decide (0 ≤ h ∧ h ≤ 6)
def nextE (e s m h : Int) : Int := if nextOk e s m h then (if s + 1 < 2 ^ h.toNat then e else if e = 65536 then 0 else e + 1) else 0
def nextS (e s m h : Int) : Int := if nextOk e s m h then (if s + 1 < 2 ^ h.toNat then s + 1 else 0) else 0
def nextR (e s m h : Int) : Int := if nextOk e s m h then (if s + 1 < 2 ^ h.toNat then 0 else if e = 65536 then 21 else 0) else 1
end Go.Proofs.Ytoembbdjpelogaa
