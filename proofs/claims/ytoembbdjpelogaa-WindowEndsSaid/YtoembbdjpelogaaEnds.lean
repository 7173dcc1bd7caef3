/-
  The walk of the law WindowEnds: it returns true, and leaves all old memory as it was, whatever the boot and the number.
-/
import Derived.Test.YtoembbdjpelogaaCtr
namespace Go.Proofs.Ytoembbdjpelogaa
open Go.RowKit

def EndsPost (w : World) (r : Ending) (w' : World) : Prop := r = .returned (.bool true) ∧ Below w.heap.size w w'

set_option maxHeartbeats 1600000 in
theorem ends_a (boot to : Nat) (w : World) (h0 : boot ≠ 0) (hlt : to < 18446744073709551615) :
    Calls Try.prog 13 #[.int .u64 boot, .int .u64 to] w (EndsPost w) := by
  have t0 : ((boot : Int) == 0) = false := by simp [h0]
  have t1 : ((to : Int) == 18446744073709551615) = false := by simp; omega
  have t2 : (to : Int) + 1 ≤ 18446744073709551615 := by omega
  go_enter Try.func13, Try.ntmps13
  go_wp2_with fail
  refine (next_nil _).mono ?_
  rintro r w1 ⟨rfl, rfl⟩
  go_wp2_with fail
  refine (top_nil _).mono ?_
  rintro r w1 ⟨rfl, rfl⟩
  go_wp2_with fail
  refine (begin_yes boot _ h0).mono ?_
  rintro r w1 ⟨rfl, rfl⟩
  have B0 := Blk.new w (ctrObj boot 0)
  have E0 : Below w.heap.size w (w.alloc (ctrObj boot 0)) := more (Below.refl _ _) _
  have S0 : w.heap.size ≤ (w.alloc (ctrObj boot 0)).heap.size := by simp
  revert B0 E0 S0
  generalize w.alloc (ctrObj boot 0) = wa
  generalize hb : w.heap.size = b
  intro B0 E0 S0
  have HB := Lib.hid hb
  clear hb
  go_wp2_with fail
  refine (skip_yes b boot 0 to _ B0 (Nat.zero_le _)).mono ?_
  rintro r w1 ⟨rfl, hT⟩
  replace E0 := E0.trans (hT.below (Nat.le_refl _) S0)
  replace S0 := Nat.le_trans S0 hT.size
  replace B0 := hT.blk
  clear hT
  go_wp2_with fail
  refine (next_yes b boot to _ B0 hlt).mono ?_
  rintro r w2 ⟨rfl, hT⟩
  replace E0 := E0.trans (hT.below (Nat.le_refl _) S0)
  replace S0 := Nat.le_trans S0 hT.size
  replace B0 := hT.blk
  clear hT
  go_wp2_with fail
  refine (awake_any _).mono ?_
  rintro r w3 ⟨rfl, hb⟩
  replace E0 := E0.trans (hb.mono S0)
  replace S0 := Nat.le_trans S0 hb.size
  replace B0 := B0.keep hb
  clear hb
  go_wp2_with fail
  refine (skip_no b boot (to + 1) to _ B0 (Nat.lt_succ_self _)).mono ?_
  rintro r w4 ⟨rfl, rfl⟩
  go_wp2_with fail
  refine (skip_nil _ _).mono ?_
  rintro r w4 ⟨rfl, rfl⟩
  go_wp2_with fail
  refine (fresh_nil _ _ _).mono ?_
  rintro r w4 ⟨rfl, rfl⟩
  go_wp2_with fail
  refine (take_nil _ _ _).mono ?_
  rintro r w4 ⟨rfl, rfl⟩
  go_wp2_with fail
  go_ret
  exact ⟨rfl, by rw [HB.out]; exact E0⟩

set_option maxHeartbeats 1600000 in
theorem ends_am (boot : Nat) (w : World) (h0 : boot ≠ 0) :
    Calls Try.prog 13 #[.int .u64 boot, .int .u64 18446744073709551615] w (EndsPost w) := by
  have t0 : ((boot : Int) == 0) = false := by simp [h0]
  go_enter Try.func13, Try.ntmps13
  go_wp2_with fail
  refine (next_nil _).mono ?_
  rintro r w1 ⟨rfl, rfl⟩
  go_wp2_with fail
  refine (top_nil _).mono ?_
  rintro r w1 ⟨rfl, rfl⟩
  go_wp2_with fail
  refine (begin_yes boot _ h0).mono ?_
  rintro r w1 ⟨rfl, rfl⟩
  have B0 := Blk.new w (ctrObj boot 0)
  have E0 : Below w.heap.size w (w.alloc (ctrObj boot 0)) := more (Below.refl _ _) _
  have S0 : w.heap.size ≤ (w.alloc (ctrObj boot 0)).heap.size := by simp
  revert B0 E0 S0
  generalize w.alloc (ctrObj boot 0) = wa
  generalize hb : w.heap.size = b
  intro B0 E0 S0
  have HB := Lib.hid hb
  clear hb
  go_wp2_with fail
  refine (skip_yes b boot 0 18446744073709551615 _ B0 (Nat.zero_le _)).mono ?_
  rintro r w1 ⟨rfl, hT⟩
  replace E0 := E0.trans (hT.below (Nat.le_refl _) S0)
  replace S0 := Nat.le_trans S0 hT.size
  replace B0 := hT.blk
  clear hT
  go_wp2_with fail
  refine (next_no b boot _ B0).mono ?_
  rintro r w2 ⟨rfl, rfl⟩
  go_wp2_with fail
  refine (awake_any _).mono ?_
  rintro r w3 ⟨rfl, hb⟩
  replace E0 := E0.trans (hb.mono S0)
  clear hb
  go_wp2_with fail
  go_ret
  exact ⟨rfl, by rw [HB.out]; exact E0⟩

set_option maxHeartbeats 1600000 in
theorem ends_b (to : Nat) (w : World)  (hlt : to < 18446744073709551615) :
    Calls Try.prog 13 #[.int .u64 0, .int .u64 to] w (EndsPost w) := by
  have t1 : ((to : Int) == 18446744073709551615) = false := by simp; omega
  have t2 : (to : Int) + 1 ≤ 18446744073709551615 := by omega
  go_enter Try.func13, Try.ntmps13
  go_wp2_with fail
  refine (next_nil _).mono ?_
  rintro r w1 ⟨rfl, rfl⟩
  go_wp2_with fail
  refine (top_nil _).mono ?_
  rintro r w1 ⟨rfl, rfl⟩
  go_wp2_with fail
  refine (begin_yes 1 _ (by decide)).mono ?_
  rintro r w1 ⟨rfl, rfl⟩
  have B0 := Blk.new w (ctrObj 1 0)
  have E0 : Below w.heap.size w (w.alloc (ctrObj 1 0)) := more (Below.refl _ _) _
  have S0 : w.heap.size ≤ (w.alloc (ctrObj 1 0)).heap.size := by simp
  revert B0 E0 S0
  generalize w.alloc (ctrObj 1 0) = wa
  generalize hb : w.heap.size = b
  intro B0 E0 S0
  have HB := Lib.hid hb
  clear hb
  go_wp2_with fail
  refine (skip_yes b 1 0 to _ B0 (Nat.zero_le _)).mono ?_
  rintro r w1 ⟨rfl, hT⟩
  replace E0 := E0.trans (hT.below (Nat.le_refl _) S0)
  replace S0 := Nat.le_trans S0 hT.size
  replace B0 := hT.blk
  clear hT
  go_wp2_with fail
  refine (next_yes b 1 to _ B0 hlt).mono ?_
  rintro r w2 ⟨rfl, hT⟩
  replace E0 := E0.trans (hT.below (Nat.le_refl _) S0)
  replace S0 := Nat.le_trans S0 hT.size
  replace B0 := hT.blk
  clear hT
  go_wp2_with fail
  refine (awake_any _).mono ?_
  rintro r w3 ⟨rfl, hb⟩
  replace E0 := E0.trans (hb.mono S0)
  replace S0 := Nat.le_trans S0 hb.size
  replace B0 := B0.keep hb
  clear hb
  go_wp2_with fail
  refine (skip_no b 1 (to + 1) to _ B0 (Nat.lt_succ_self _)).mono ?_
  rintro r w4 ⟨rfl, rfl⟩
  go_wp2_with fail
  refine (skip_nil _ _).mono ?_
  rintro r w4 ⟨rfl, rfl⟩
  go_wp2_with fail
  refine (fresh_nil _ _ _).mono ?_
  rintro r w4 ⟨rfl, rfl⟩
  go_wp2_with fail
  refine (take_nil _ _ _).mono ?_
  rintro r w4 ⟨rfl, rfl⟩
  go_wp2_with fail
  go_ret
  exact ⟨rfl, by rw [HB.out]; exact E0⟩

set_option maxHeartbeats 1600000 in
theorem ends_bm  (w : World)  :
    Calls Try.prog 13 #[.int .u64 0, .int .u64 18446744073709551615] w (EndsPost w) := by
  go_enter Try.func13, Try.ntmps13
  go_wp2_with fail
  refine (next_nil _).mono ?_
  rintro r w1 ⟨rfl, rfl⟩
  go_wp2_with fail
  refine (top_nil _).mono ?_
  rintro r w1 ⟨rfl, rfl⟩
  go_wp2_with fail
  refine (begin_yes 1 _ (by decide)).mono ?_
  rintro r w1 ⟨rfl, rfl⟩
  have B0 := Blk.new w (ctrObj 1 0)
  have E0 : Below w.heap.size w (w.alloc (ctrObj 1 0)) := more (Below.refl _ _) _
  have S0 : w.heap.size ≤ (w.alloc (ctrObj 1 0)).heap.size := by simp
  revert B0 E0 S0
  generalize w.alloc (ctrObj 1 0) = wa
  generalize hb : w.heap.size = b
  intro B0 E0 S0
  have HB := Lib.hid hb
  clear hb
  go_wp2_with fail
  refine (skip_yes b 1 0 18446744073709551615 _ B0 (Nat.zero_le _)).mono ?_
  rintro r w1 ⟨rfl, hT⟩
  replace E0 := E0.trans (hT.below (Nat.le_refl _) S0)
  replace S0 := Nat.le_trans S0 hT.size
  replace B0 := hT.blk
  clear hT
  go_wp2_with fail
  refine (next_no b 1 _ B0).mono ?_
  rintro r w2 ⟨rfl, rfl⟩
  go_wp2_with fail
  refine (awake_any _).mono ?_
  rintro r w3 ⟨rfl, hb⟩
  replace E0 := E0.trans (hb.mono S0)
  clear hb
  go_wp2_with fail
  go_ret
  exact ⟨rfl, by rw [HB.out]; exact E0⟩

theorem windowEnds_walk (boot to : Int) (w : World) (wb : (Lit.int .u64 boot).wf = true) (wt : (Lit.int .u64 to).wf = true) :
    Calls Try.prog 13 #[.int .u64 boot, .int .u64 to] w fun r w' => r = .returned (.bool true) ∧ Below w.heap.size w w' := by
  have h1 : 0 ≤ boot ∧ boot ≤ 18446744073709551615 := by simpa [Lit.wf, IntKind.min, IntKind.max, IntKind.signed, IntKind.bits] using wb
  have h2 : 0 ≤ to ∧ to ≤ 18446744073709551615 := by simpa [Lit.wf, IntKind.min, IntKind.max, IntKind.signed, IntKind.bits] using wt
  obtain ⟨n, rfl⟩ := Int.eq_ofNat_of_zero_le h1.1
  obtain ⟨k, rfl⟩ := Int.eq_ofNat_of_zero_le h2.1
  by_cases hk : k < 18446744073709551615
  · by_cases hn : n = 0
    · subst hn
      exact ends_b k w hk
    · exact ends_a n k w hn hk
  · obtain rfl : k = 18446744073709551615 := by omega
    by_cases hn : n = 0
    · subst hn
      exact ends_bm w
    · exact ends_am n w hn
end Go.Proofs.Ytoembbdjpelogaa
