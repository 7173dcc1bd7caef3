/-
  math/bits.RotateLeft32 and the document's rotr: a number turned to the right.
-/
import Derived.Test.YtioeaknhcfkfcaaBase
import Derived.Test.YtioeaknhcfkfcaaPure
namespace Go.Proofs.Ytioeaknhcfkfcaa
open Go.RowKit

theorem and31 (n : Nat) (h1 : 1 ≤ n) (h2 : n ≤ 31) : bits .and .u64 (IntKind.u64.wrap (-(n : Int))) 31 = ((32 - n : Nat) : Int) := by
  have e : IntKind.u64.wrap (-(n : Int)) = ((18446744073709551616 - n : Nat) : Int) := by
    simp [IntKind.wrap, IntKind.bits, IntKind.signed]
    omega
  rw [e]
  have := u64_and_nat (18446744073709551616 - n) 31 (by omega) (by omega)
  rw [show ((31 : Nat) : Int) = (31 : Int) from rfl] at this
  rw [this, nat_mask5]
  congr 1
  omega
end Go.Proofs.Ytioeaknhcfkfcaa
