/-
  The contract of Out's Sums.
-/
import Derived.Test.YtioeaknhcfkfcaaOutC
namespace Go.Proofs.Ytioeaknhcfkfcaa
open Go.RowKit

/-- What Out lays for n short sums, whose bytes are S. -/
def sumsL' (l S : List Int) (n : Nat) (f : Bool) : List Int := putL (numL l f n 1) S (numF f n 1)
def sumsF' (n : Nat) (f : Bool) : Bool := numF f n 1
theorem putL_nil (L : List Int) (f : Bool) : putL L [] f = L := by
  unfold putL
  cases f <;> simp
theorem putL_len (L p : List Int) (f : Bool) : (putL L p f).length ≤ L.length + p.length := by
  unfold putL
  split
  · omega
  · rw [List.length_append]; omega

end Go.Proofs.Ytioeaknhcfkfcaa
