/-
  A piece, a joiner, and its small calls.
-/
import Derived.Test.YtioeaknhcfkfcaaMid
import Derived.Test.YtioeaknhcfkfcaaAlloc
import Derived.Test.YtioeaknhcfkfcaaFlowQ
namespace Go.Proofs.Ytioeaknhcfkfcaa
open Go.RowKit

/-- A piece as a value. -/
structure PV where
  id : Int
  at_ : Int
  many : Int
  a : Option Addr
  n : Nat
  c : Nat
abbrev PV.v (p : PV) : Value := .agg #[.int .u32 p.id, .int .i64 p.at_, .int .i64 p.many, .slice p.a p.n p.c]
def rightB (p : PV) : Bool := decide (1 ≤ p.many ∧ p.many ≤ 32 ∧ 0 ≤ p.at_ ∧ p.at_ < p.many ∧ p.n ≤ 4096)
/-- A joiner's own object. -/
structure JV where
  began : Bool
  id : Int
  a : Option Addr
  n : Nat
  c : Nat
abbrev jObj (j : JV) : Obj := .cells #[.bool j.began, .int .u32 j.id, .slice j.a j.n j.c] 87
abbrev jP (g : Nat) : Value := .pointer (some ⟨g, 0, none⟩)
def nextB (j : JV) (id : Int) : Bool := !j.began || decide (j.id < id)

set_option maxHeartbeats 1000000 in
theorem right_any (p : PV) (w : World) : Calls Try.prog 64 #[p.v] w fun r w' => r = .returned (.bool (rightB p)) ∧ Below w.heap.size w w' := by
  by_cases h1 : 1 ≤ p.many
  · by_cases h2 : p.many ≤ 32
    · by_cases h3 : 0 ≤ p.at_
      · by_cases h4 : p.at_ < p.many
        · by_cases h5 : p.n ≤ 4096
          · have HE : Hid (rightB p = true) := by unfold Hid rightB; simp [h1, h2, h3, h4, h5]
            have h5' : (p.n : Int) ≤ 4096 := by omega
            go_enter Try.func64, Try.ntmps64
            go_wp2_with fail
            go_ret
            exact ⟨retb HE.out.symm, more (Below.refl _ _) _⟩
          · have HE : Hid (rightB p = false) := by unfold Hid rightB; simp [h5]
            have h5' : ¬ (p.n : Int) ≤ 4096 := by omega
            go_enter Try.func64, Try.ntmps64
            go_wp2_with fail
            go_ret
            exact ⟨retb HE.out.symm, more (Below.refl _ _) _⟩
        · have HE : Hid (rightB p = false) := by unfold Hid rightB; simp [h4]
          go_enter Try.func64, Try.ntmps64
          go_wp2_with fail
          go_ret
          exact ⟨retb HE.out.symm, more (Below.refl _ _) _⟩
      · have HE : Hid (rightB p = false) := by unfold Hid rightB; simp [h3]
        go_enter Try.func64, Try.ntmps64
        go_wp2_with fail
        go_ret
        exact ⟨retb HE.out.symm, more (Below.refl _ _) _⟩
    · have HE : Hid (rightB p = false) := by unfold Hid rightB; simp [h2]
      go_enter Try.func64, Try.ntmps64
      go_wp2_with fail
      go_ret
      exact ⟨retb HE.out.symm, more (Below.refl _ _) _⟩
  · have HE : Hid (rightB p = false) := by unfold Hid rightB; simp [h1]
    go_enter Try.func64, Try.ntmps64
    go_wp2_with fail
    go_ret
    exact ⟨retb HE.out.symm, more (Below.refl _ _) _⟩
end Go.Proofs.Ytioeaknhcfkfcaa
