/-
  The document's Digit; the digit that a byte is.
-/
import Derived.Test.YtahmioiefmheeaaDoorHex
namespace Go.Proofs.YtahmioiefmheeaaDoor
open Go.RowKit

theorem hd_lo (n : Int) (h0 : 0 ≤ n) (h : n < 10) : ((hd n).toNat : Int) = 48 + n := by
  obtain ⟨k, rfl⟩ : ∃ k : Nat, n = k := ⟨n.toNat, by omega⟩
  rw [hd, if_pos h, UInt8.toNat_ofNat']
  omega
theorem hd_hi (n : Int) (h : 10 ≤ n) (h1 : n < 16) : ((hd n).toNat : Int) = 87 + n := by
  obtain ⟨k, rfl⟩ : ∃ k : Nat, n = k := ⟨n.toNat, by omega⟩
  rw [hd, if_neg (by omega), UInt8.toNat_ofNat']
  omega
set_option maxHeartbeats 1000000 in
theorem digit_any (n : Int) (h0 : 0 ≤ n) (h1 : n < 16) (w : World) :
    Calls Tryd.prog 77 #[.int .u8 n] w fun r w' => r = .returned (.int .u8 (hd n).toNat) ∧ w' = w := by
  by_cases h : n < 10
  · have hh := hd_lo n h0 h
    generalize ((hd n).toNat : Int) = d at *
    go_enter Tryd.func77, Tryd.ntmps77
    go_wp2_with fail
    go_ret
    first
    | done
    | (refine ⟨?_, rfl⟩; go_num)
  · have hh := hd_hi n (by omega) h1
    generalize ((hd n).toNat : Int) = d at *
    have h : 10 ≤ n := by omega
    go_enter Tryd.func77, Tryd.ntmps77
    go_wp2_with fail
    go_ret
    first
    | done
    | (refine ⟨?_, rfl⟩; go_num)
/-- Which digit below k a byte is, -1 where it is none. -/
def dig (c : UInt8) : Nat → Int
  | 0 => -1
  | k + 1 => if c = hd k then k else dig c k
theorem dig_index (c : UInt8) : Lib.indexByte [48, 49, 50, 51, 52, 53, 54, 55, 56, 57, 97, 98, 99, 100, 101, 102] c = dig c 16 := by
  have key : ∀ n : Fin 256, Lib.indexByte [48, 49, 50, 51, 52, 53, 54, 55, 56, 57, 97, 98, 99, 100, 101, 102] (UInt8.ofNat n.val) = dig (UInt8.ofNat n.val) 16 := by decide +kernel
  have h := key ⟨c.toNat, c.toNat_lt⟩
  simpa using h
theorem dig_le (c : UInt8) (k : Nat) (hk : k ≤ 16) : -1 ≤ dig c k ∧ dig c k < 16 := by
  induction k with
  | zero => simp [dig]
  | succ k ih => have := ih (by omega); rw [dig]; split <;> omega
theorem dig_hd (n : Int) (h0 : 0 ≤ n) (h1 : n < 16) : dig (hd n) 16 = n := by
  have key : ∀ k : Fin 16, dig (hd (k.val : Nat)) 16 = k.val := by decide +kernel
  have h := key ⟨n.toNat, by omega⟩
  have e : ((n.toNat : Nat) : Int) = n := by omega
  simpa [e] using h
end Go.Proofs.YtahmioiefmheeaaDoor
