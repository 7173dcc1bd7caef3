/-
  The law TollBounds, both ways.
-/
import Derived.Test.YthhdbniliimonaaTlK
namespace Go.Proofs.Ythhdbniliimonaa
open Go.RowKit
theorem tollBounds_walk (a b c d : Int) (ad : Option Addr) (len cap : Nat) (f : Nat → Int × Int) (w : World) (_ : (Lit.int .i64 a).wf = true) (_ : (Lit.int .i64 b).wf = true) (_ : (Lit.int .i64 c).wf = true) (_ : (Lit.int .i64 d).wf = true) (hops : IsOps w ad len f) :
    Calls Try.prog 4 #[.agg #[.int .i64 a, .int .i64 b, .int .i64 c, .int .i64 d], .slice ad len cap] w fun r w' => r = .returned (.bool true) ∧ Below w.heap.size w w' := by
  by_cases h : rightV a b c d = true
  · by_cases h1 : b ≤ 1048576
    · by_cases h2 : d ≤ 1048576
      · exact bounds_yes a b c d ad len cap f w ⟨h, h1, h2⟩ hops
      · exact bounds_no a b c d ad len cap w (by omega)
    · exact bounds_no a b c d ad len cap w (by omega)
  · exact bounds_no a b c d ad len cap w (.inl (by simpa using h))
end Go.Proofs.Ythhdbniliimonaa
