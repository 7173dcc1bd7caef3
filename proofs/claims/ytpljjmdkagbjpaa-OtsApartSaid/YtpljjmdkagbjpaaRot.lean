/-
  math/bits.RotateLeft32 and the document's rotr: a number turned to the right.
-/
import Derived.Test.YtpljjmdkagbjpaaBase
import Derived.Test.YtpljjmdkagbjpaaPure
namespace Go.Proofs.Ytpljjmdkagbjpaa
open Go.RowKit

theorem and31 (n : Nat) (h1 : 1 ≤ n) (h2 : n ≤ 31) : bits .and .u64 (IntKind.u64.wrap (-(n : Int))) 31 = ((32 - n : Nat) : Int) := by
  have e : IntKind.u64.wrap (-(n : Int)) = ((18446744073709551616 - n : Nat) : Int) := by
    simp [IntKind.wrap, IntKind.bits, IntKind.signed]
    omega
  rw [e]
  have := u64_and_nat (18446744073709551616 - n) 31 (by omega) (by omega)
  rw [show ((31 : Nat) : Int) = (31 : Int) from rfl] at this
  rw [this, nat_mask5]
  congr 1
  omega
set_option maxHeartbeats 400000 in
/-- The document's rotr. -/
theorem rotr (x : Int) (n : Nat) (k : Int) (w : World) (hk : k = (n : Int)) (h1 : 1 ≤ n) (h2 : n ≤ 31) :
    Calls Try.prog 26 #[.int .u32 x, .int .u64 k] w fun r w' => r = .returned (.int .u32 (rot x n)) ∧ w = w' := by
  subst hk
  go_enter Try.func26, Try.ntmps26
  go_wp2_with fail
  go_ret
  refine ⟨?_, rfl⟩
  unfold rot w32
  first
  | rfl
  | trace_state
end Go.Proofs.Ytpljjmdkagbjpaa
