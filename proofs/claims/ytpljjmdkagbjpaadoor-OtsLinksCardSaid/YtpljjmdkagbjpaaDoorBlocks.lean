/-
  How many blocks bytes take: sha.Blocks and the document's.
-/
import Derived.Test.YtpljjmdkagbjpaaDoorWrite
namespace Go.Proofs.YtpljjmdkagbjpaaDoor
open Go.RowKit

/-- The blocks of n bytes, of any n. -/
def blkI (n : Int) : Int := if n < 0 then 1 else if n % 64 ≤ 55 then n / 64 + 1 else n / 64 + 2
theorem blkI_nat (n : Nat) : blkI n = (blocks n : Nat) := by
  unfold blkI blocks
  rw [if_neg (by omega)]
  split <;> split <;> omega
set_option maxHeartbeats 400000 in
theorem blocks_any (n : Int) (w : World) (h2 : n ≤ 9223372036854775807) :
    Calls Tryd.prog 101 #[.int .i64 n] w fun r w' => r = .returned (.int .i64 (blkI n)) ∧ w' = w := by
  by_cases h0 : n < 0
  · have HE : Hid (blkI n = 1) := by show _ = _; unfold blkI; rw [if_pos h0]
    go_enter Tryd.func101, Tryd.ntmps101
    go_wp2_with fail
    go_ret
    exact ⟨reti HE.out.symm, rfl⟩
  · by_cases h5 : n % 64 ≤ 55
    · have HE : Hid (blkI n = n / 64 + 1) := by show _ = _; unfold blkI; rw [if_neg h0, if_pos h5]
      have t1 : decide (56 ≤ n % 64) = false := by simp; omega
      have h00 : 0 ≤ n := by omega
      clear h0 h5
      go_enter Tryd.func101, Tryd.ntmps101
      go_wp2_with fail
      go_ret
      exact ⟨reti HE.out.symm, rfl⟩
    · have HE : Hid (blkI n = n / 64 + 2) := by show _ = _; unfold blkI; rw [if_neg h0, if_neg h5]
      have t1 : decide (56 ≤ n % 64) = true := by simp; omega
      have h00 : 0 ≤ n := by omega
      clear h0 h5
      go_enter Tryd.func101, Tryd.ntmps101
      go_wp2_with fail
      go_ret
      exact ⟨reti HE.out.symm, rfl⟩
end Go.Proofs.YtpljjmdkagbjpaaDoor
