/-
  math/bits.RotateLeft32 and the document's rotr: a number turned to the right.
-/
import Derived.Test.YtpljjmdkagbjpaaDoorBase
import Derived.Test.YtpljjmdkagbjpaaDoorPure
namespace Go.Proofs.YtpljjmdkagbjpaaDoor
open Go.RowKit

theorem and31 (n : Nat) (h1 : 1 ≤ n) (h2 : n ≤ 31) : bits .and .u64 (IntKind.u64.wrap (-(n : Int))) 31 = ((32 - n : Nat) : Int) := by
  have e : IntKind.u64.wrap (-(n : Int)) = ((18446744073709551616 - n : Nat) : Int) := by
    simp [IntKind.wrap, IntKind.bits, IntKind.signed]
    omega
  rw [e]
  have := u64_and_nat (18446744073709551616 - n) 31 (by omega) (by omega)
  rw [show ((31 : Nat) : Int) = (31 : Int) from rfl] at this
  rw [this, nat_mask5]
  congr 1
  omega
set_option maxHeartbeats 400000 in
/-- math/bits.RotateLeft32 by -n. -/
theorem rotl (x : Int) (n : Nat) (k : Int) (w : World) (hk : k = -(n : Int)) (h1 : 1 ≤ n) (h2 : n ≤ 31) :
    Calls Tryd.prog 100 #[.int .u32 x, .int .i64 k] w fun r w' => r = .returned (.int .u32 (rot x n)) ∧ w = w' := by
  have ha := and31 n h1 h2
  rw [← hk] at ha
  obtain ⟨m, hm⟩ : ∃ m, m = 32 - n := ⟨_, rfl⟩
  have Hm := Lib.hid hm
  have Hk := Lib.hid hk
  have b1 : 1 ≤ m := by omega
  have b2 : m ≤ 31 := by omega
  rw [← hm] at ha
  clear hm hk
  go_enter Tryd.func100, Tryd.ntmps100
  go_wp2_with fail
  go_ret
  refine ⟨?_, rfl⟩
  have e1 := Hm.out
  have e2 : n = 32 - m := by omega
  subst e2
  unfold rot w32
  rw [or_comm32, show 32 - (32 - m) = m by omega]
  first
  | rfl
  | trace_state
set_option maxHeartbeats 400000 in
/-- The document's rotr. -/
theorem rotr (x : Int) (n : Nat) (k : Int) (w : World) (hk : k = (n : Int)) (h1 : 1 ≤ n) (h2 : n ≤ 31) :
    Calls Tryd.prog 102 #[.int .u32 x, .int .u64 k] w fun r w' => r = .returned (.int .u32 (rot x n)) ∧ w = w' := by
  subst hk
  go_enter Tryd.func102, Tryd.ntmps102
  go_wp2_with fail
  go_ret
  refine ⟨?_, rfl⟩
  unfold rot w32
  first
  | rfl
  | trace_state
end Go.Proofs.YtpljjmdkagbjpaaDoor
