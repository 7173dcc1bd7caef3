/-
  What a plan's steps do; the contracts of the small calls.
-/
import Derived.Test.YtfnjfoconklhiaaStA
namespace Go.Proofs.Ytfnjfoconklhiaa
open Go.RowKit

def krB (e s m : Int) : Bool := decide (e ≤ 65536 ∧ s < 64 ∧ 0 ≤ m ∧ m ≤ 15)
def nwB (e s e' s' : Int) : Bool := decide (e' < e ∨ e = e' ∧ s' < s)
def rtB (a b : Int) : Bool := decide (1 ≤ a ∧ a ≤ 1048576 ∧ 0 ≤ b ∧ b ≤ 1048576)
def tmB (t : Int) : Bool := decide (0 ≤ t ∧ t ≤ 1099511627776)
abbrev keyV (e s m : Int) : Value := .agg #[.int .u32 e, .int .u32 s, .int .i64 m]
theorem right_any (a b : Int) (w : World) : Calls Try.prog 8 #[.agg #[.int .i64 a, .int .i64 b]] w fun r w' => r = .returned (.bool (rtB a b)) ∧ Below w.heap.size w w' := by
  go_enter Try.func8, Try.ntmps8
  go_wp2
  all_goals (go_ret; refine ⟨retb (Bool.eq_iff_iff.2 ?_), more (Below.refl _ _) _⟩)
  all_goals (unfold rtB; simp only [decide_eq_true_eq, Bool.false_eq_true, false_iff]; omega)
theorem rright_any (a b : Int) (w : World) : Calls Try.prog 9 #[.agg #[.int .i64 a, .int .i64 b]] w fun r w' => r = .returned (.bool (rtB a b)) ∧ Below w.heap.size w w' := by
  go_enter Try.func9, Try.ntmps9
  go_wp2
  all_goals (go_ret; refine ⟨retb (Bool.eq_iff_iff.2 ?_), more (Below.refl _ _) _⟩)
  all_goals (unfold rtB; simp only [decide_eq_true_eq, Bool.false_eq_true, false_iff]; omega)
theorem rkright_any (e s m : Int) (w : World) : Calls Try.prog 21 #[keyV e s m] w fun r w' => r = .returned (.bool (krB e s m)) ∧ Below w.heap.size w w' := by
  go_enter Try.func21, Try.ntmps21
  go_wp2
  all_goals (go_ret; refine ⟨retb (Bool.eq_iff_iff.2 ?_), more (Below.refl _ _) _⟩)
  all_goals (unfold krB; simp only [decide_eq_true_eq, Bool.false_eq_true, false_iff]; omega)
theorem kright_any (e s m : Int) (w : World) : Calls Try.prog 23 #[keyV e s m] w fun r w' => r = .returned (.bool (krB e s m)) ∧ Below w.heap.size w w' := by
  go_enter Try.func23, Try.ntmps23
  go_wp2
  all_goals (go_ret; refine ⟨retb (Bool.eq_iff_iff.2 ?_), more (Below.refl _ _) _⟩)
  all_goals (unfold krB; simp only [decide_eq_true_eq, Bool.false_eq_true, false_iff]; omega)
theorem rnewer_any (e s m e' s' m' : Int) (w : World) : Calls Try.prog 20 #[keyV e s m, keyV e' s' m'] w fun r w' => r = .returned (.bool (nwB e s e' s')) ∧ Below w.heap.size w w' := by
  by_cases h1 : e' < e
  · go_enter Try.func20, Try.ntmps20
    go_wp2
    go_ret
    exact ⟨retb (by simp [nwB, h1]), more (more (Below.refl _ _) _) _⟩
  · by_cases h2 : e = e'
    · subst h2
      go_enter Try.func20, Try.ntmps20
      go_wp2
      go_ret
      exact ⟨retb (by simp [nwB]), more (more (Below.refl _ _) _) _⟩
    · have h2' : (e == e') = false := by simpa using h2
      have HV : Kp (nwB e s e' s' = false) := ⟨by simp [nwB, h1, h2]⟩
      go_enter Try.func20, Try.ntmps20
      go_wp2
      go_ret
      exact ⟨retb HV.out.symm, more (more (Below.refl _ _) _) _⟩
theorem newer_any (e s m e' s' m' : Int) (w : World) : Calls Try.prog 24 #[keyV e s m, keyV e' s' m'] w fun r w' => r = .returned (.bool (nwB e s e' s')) ∧ Below w.heap.size w w' := by
  by_cases h1 : e' < e
  · go_enter Try.func24, Try.ntmps24
    go_wp2
    go_ret
    exact ⟨retb (by simp [nwB, h1]), more (more (Below.refl _ _) _) _⟩
  · by_cases h2 : e = e'
    · subst h2
      go_enter Try.func24, Try.ntmps24
      go_wp2
      go_ret
      exact ⟨retb (by simp [nwB]), more (more (Below.refl _ _) _) _⟩
    · have h2' : (e == e') = false := by simpa using h2
      have HV : Kp (nwB e s e' s' = false) := ⟨by simp [nwB, h1, h2]⟩
      go_enter Try.func24, Try.ntmps24
      go_wp2
      go_ret
      exact ⟨retb HV.out.symm, more (more (Below.refl _ _) _) _⟩
theorem kto_any (e s m : Int) (w : World) : Calls Try.prog 13 #[keyV e s m] w fun r w' => r = .returned (keyV e s m) ∧ Below w.heap.size w w' := by
  go_enter Try.func13, Try.ntmps13
  go_wp2
  refine bodyPost_ret (v := keyV e s m) (by simp [results, Try.results13, go_sem]) rfl ⟨rfl, more (more (Below.refl _ _) _) _⟩
theorem time_any (t : Int) (w : World) : Calls Try.prog 22 #[.int .i64 t] w fun r w' => r = .returned (.bool (tmB t)) ∧ w = w' := by
  go_enter Try.func22, Try.ntmps22
  go_wp2
  all_goals (go_ret; refine ⟨retb (Bool.eq_iff_iff.2 ?_), rfl⟩)
  all_goals (unfold tmB; simp only [decide_eq_true_eq, Bool.false_eq_true, false_iff]; omega)

/-- From when on news have settled. -/
def setT (p : PS) (n : NW) : Int := if n.urgent then 0 else n.first + p.settle
def NW.tell (n : NW) : NW := { n with waits := false, urgent := false }
def NW.note (n : NW) (now e s m : Int) (u : Bool) : NW := ⟨true, e, s, m, if n.noted = false ∨ nwB e s n.e n.s = true then now else n.first, true, n.urgent || u⟩
def noteB (now d e s m : Int) : Bool := decide (0 ≤ d ∧ d < 8) && (tmB now && krB e s m)
def PS.note (p : PS) (now d e s m : Int) (u : Bool) : PS := if noteB now d e s m = true then p.put d.toNat ((p.all d.toNat).note now e s m u) else p
def PS.tell (p : PS) (l : List Nat) : PS := { p with all := fun i => if i ∈ l then (p.all i).tell else p.all i }
def PS.full (p : PS) (now : Int) : Bool := !p.ever || decide (p.period ≤ now - p.told)
def PS.ripe (p : PS) (now : Int) (n : NW) : Bool := n.waits && decide (setT p n ≤ now)
def those (p : PS) (q : NW → Bool) (i : Nat) : List Nat := (List.range i).filter fun d => q (p.all d)
def PS.dueF (p : PS) (now : Int) : Bool := tmB now && p.full now
def PS.dueL (p : PS) (now : Int) : List Nat := if tmB now = true ∧ p.full now = false then those p (p.ripe now) 8 else []
def PS.due (p : PS) (now : Int) : PS := if tmB now = true then (if p.full now = true then { (p.tell (those p (·.waits) 8)) with ever := true, told := now } else p.tell (those p (p.ripe now) 8)) else p
def PS.next (p : PS) : Int := if p.ever = false then 0 else (those p (·.waits) 8).foldl (fun x d => min x (setT p (p.all d))) (p.told + p.period)
/-- What a plan is. -/
structure PS.Ok (p : PS) : Prop where
  right : rtB p.period p.settle = true
  told : tmB p.told = true
  first : ∀ d, d < 8 → tmB (p.all d).first = true
  urgent : ∀ d, d < 8 → (p.all d).urgent = true → (p.all d).waits = true
theorem those_yes {p : PS} {q : NW → Bool} {i : Nat} (h : q (p.all i) = true) : those p q (i + 1) = those p q i ++ [i] := by simp [those, List.range_succ, List.filter_append, h]
theorem those_no {p : PS} {q : NW → Bool} {i : Nat} (h : q (p.all i) = false) : those p q (i + 1) = those p q i := by simp [those, List.range_succ, List.filter_append, h]
theorem those_len (p : PS) (q : NW → Bool) (i : Nat) : (those p q i).length ≤ i := by
  unfold those
  exact Nat.le_trans (List.length_filter_le _ _) (by simp)
theorem those_mem {p : PS} {q : NW → Bool} {i d : Nat} : d ∈ those p q i ↔ d < i ∧ q (p.all d) = true := by simp [those]
end Go.Proofs.Ytfnjfoconklhiaa
