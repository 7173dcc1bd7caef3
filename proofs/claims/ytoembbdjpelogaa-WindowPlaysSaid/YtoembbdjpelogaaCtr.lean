/-
  The contracts of the counter's calls, of the calls on nil ones, and of the document's example.
-/
import Derived.Test.YtoembbdjpelogaaWin
namespace Go.Proofs.Ytoembbdjpelogaa
open Go.RowKit

abbrev ctrObj (boot last : Nat) : Obj := .cells #[.int .u64 boot, .int .u64 last] 107

set_option maxHeartbeats 400000 in
theorem begin_yes (boot : Nat) (w : World) (h : boot ≠ 0) :
    Calls Try.prog 43 #[.int .u64 boot] w fun r w' => r = .returned (.tuple #[.pointer (some ⟨w.heap.size, 0, none⟩), .int .i64 0]) ∧ w.alloc (ctrObj boot 0) = w' := by
  have t : ((boot : Int) == 0) = false := by simp [h]
  go_enter Try.func43, Try.ntmps43
  go_wp2_with fail
  go_ret2
  exact ⟨rfl, rfl⟩

set_option maxHeartbeats 400000 in
theorem begin_no (w : World) : Calls Try.prog 43 #[.int .u64 0] w fun r w' => r = .returned (.tuple #[.pointer none, .int .i64 1]) ∧ w = w' := by
  go_enter Try.func43, Try.ntmps43
  go_wp2_with fail
  go_ret2
  exact ⟨rfl, rfl⟩

set_option maxHeartbeats 400000 in
theorem skip_yes (b boot last to : Nat) (w : World) (hB : Blk w b (ctrObj boot last)) (h : last ≤ to) :
    Calls Try.prog 44 #[.pointer (some ⟨b, 0, none⟩), .int .u64 to] w fun r w' => r = .returned (.int .i64 0) ∧ Turn b (ctrObj boot to) w w' := by
  obtain ⟨c0, c1, f0, f1⟩ := hB.two
  have HB := Lib.hid hB
  clear hB
  go_enter Try.func44, Try.ntmps44
  go_wp2_with fail
  go_ret
  exact ⟨rfl, ((Turn.same HB.out).set 1 _).as rfl⟩

set_option maxHeartbeats 400000 in
theorem skip_no (b boot last to : Nat) (w : World) (hB : Blk w b (ctrObj boot last)) (h : to < last) :
    Calls Try.prog 44 #[.pointer (some ⟨b, 0, none⟩), .int .u64 to] w fun r w' => r = .returned (.int .i64 1) ∧ w = w' := by
  obtain ⟨c0, c1, f0, f1⟩ := hB.two
  clear hB
  go_enter Try.func44, Try.ntmps44
  go_wp2_with fail
  go_ret
  exact ⟨rfl, rfl⟩

theorem skip_nil (to : Int) (w : World) : Calls Try.prog 44 #[.pointer none, .int .u64 to] w fun r w' => r = .returned (.int .i64 2) ∧ w = w' := by
  go_enter Try.func44, Try.ntmps44
  go_wp2_with fail
  go_ret
  exact ⟨rfl, rfl⟩

set_option maxHeartbeats 400000 in
theorem next_yes (b boot last : Nat) (w : World) (hB : Blk w b (ctrObj boot last)) (h : last < 18446744073709551615) :
    Calls Try.prog 45 #[.pointer (some ⟨b, 0, none⟩)] w fun r w' => r = .returned (.tuple #[.int .u64 boot, .int .u64 (last + 1 : Nat), .int .i64 0]) ∧ Turn b (ctrObj boot (last + 1)) w w' := by
  obtain ⟨c0, c1, f0, f1⟩ := hB.two
  have HB := Lib.hid hB
  have t : ((last : Int) == 18446744073709551615) = false := by simp; omega
  have h' : (last : Int) + 1 ≤ 18446744073709551615 := by omega
  clear hB
  go_enter Try.func45, Try.ntmps45
  go_wp2_with fail
  go_quiet (fail)
  go_wp2_with fail
  go_ret3
  refine ⟨?_, (((Turn.same HB.out).set 1 _).drewN nq).as rfl⟩
  simp

set_option maxHeartbeats 400000 in
theorem next_no (b boot : Nat) (w : World) (hB : Blk w b (ctrObj boot 18446744073709551615)) :
    Calls Try.prog 45 #[.pointer (some ⟨b, 0, none⟩)] w fun r w' => r = .returned (.tuple #[.int .u64 0, .int .u64 0, .int .i64 21]) ∧ w = w' := by
  obtain ⟨c0, c1, f0, f1⟩ := hB.two
  clear hB
  go_enter Try.func45, Try.ntmps45
  go_wp2_with fail
  go_ret3
  exact ⟨rfl, rfl⟩

theorem next_nil (w : World) : Calls Try.prog 45 #[.pointer none] w fun r w' => r = .returned (.tuple #[.int .u64 0, .int .u64 0, .int .i64 2]) ∧ w = w' := by
  go_enter Try.func45, Try.ntmps45
  go_wp2_with fail
  go_ret3
  exact ⟨rfl, rfl⟩

theorem top_nil (w : World) : Calls Try.prog 42 #[.pointer none] w fun r w' => r = .returned (.tuple #[.int .u64 0, .int .u64 0]) ∧ w = w' := by
  go_enter Try.func42, Try.ntmps42
  go_wp2_with fail
  go_ret2
  exact ⟨rfl, rfl⟩

theorem fresh_nil (boot count : Int) (w : World) : Calls Try.prog 38 #[.pointer none, .int .u64 boot, .int .u64 count] w fun r w' => r = .returned (.bool false) ∧ w = w' := by
  go_enter Try.func38, Try.ntmps38
  go_wp2_with fail
  go_ret
  exact ⟨rfl, rfl⟩

theorem take_nil (boot count : Int) (w : World) : Calls Try.prog 41 #[.pointer none, .int .u64 boot, .int .u64 count] w fun r w' => r = .returned (.int .i64 2) ∧ w = w' := by
  go_enter Try.func41, Try.ntmps41
  go_wp2_with fail
  go_ret
  exact ⟨rfl, rfl⟩

theorem Turn.win {b size x y z x' y' z' : Nat} {w w' : World} (h : Turn b (winObj size x y z) w w') (e1 : x = x') (e2 : y = y') (e3 : z = z') : Turn b (winObj size x' y' z') w w' := by
  subst e1 e2 e3
  exact h
theorem awake_0 (b : Nat) (w : World) (hB : Blk w b (winObj 4 0 0 0)) :
    Calls Try.prog 41 #[.pointer (some ⟨b, 0, none⟩), .int .u64 1, .int .u64 5] w fun r w' => r = .returned (.int .i64 0) ∧ Turn b (winObj 4 1 5 1) w w' :=
  (take_any b 4 0 0 0 1 5 w hB (by decide) (by decide) (by decide) (by decide)).mono fun _ _ h => ⟨h.1.trans (reti (by decide)), h.2.win (by decide) (by decide) (by decide)⟩

theorem awake_1 (b : Nat) (w : World) (hB : Blk w b (winObj 4 1 5 1)) :
    Calls Try.prog 41 #[.pointer (some ⟨b, 0, none⟩), .int .u64 1, .int .u64 2] w fun r w' => r = .returned (.int .i64 0) ∧ Turn b (winObj 4 1 5 9) w w' :=
  (take_any b 4 1 5 1 1 2 w hB (by decide) (by decide) (by decide) (by decide)).mono fun _ _ h => ⟨h.1.trans (reti (by decide)), h.2.win (by decide) (by decide) (by decide)⟩

theorem awake_2 (b : Nat) (w : World) (hB : Blk w b (winObj 4 1 5 9)) :
    Calls Try.prog 41 #[.pointer (some ⟨b, 0, none⟩), .int .u64 1, .int .u64 1] w fun r w' => r = .returned (.int .i64 25) ∧ Turn b (winObj 4 1 5 9) w w' :=
  (take_any b 4 1 5 9 1 1 w hB (by decide) (by decide) (by decide) (by decide)).mono fun _ _ h => ⟨h.1.trans (reti (by decide)), h.2.win (by decide) (by decide) (by decide)⟩

theorem awake_3 (b : Nat) (w : World) (hB : Blk w b (winObj 4 1 5 9)) :
    Calls Try.prog 41 #[.pointer (some ⟨b, 0, none⟩), .int .u64 1, .int .u64 5] w fun r w' => r = .returned (.int .i64 25) ∧ Turn b (winObj 4 1 5 9) w w' :=
  (take_any b 4 1 5 9 1 5 w hB (by decide) (by decide) (by decide) (by decide)).mono fun _ _ h => ⟨h.1.trans (reti (by decide)), h.2.win (by decide) (by decide) (by decide)⟩

theorem awake_4 (b : Nat) (w : World) (hB : Blk w b (winObj 4 1 5 9)) :
    Calls Try.prog 41 #[.pointer (some ⟨b, 0, none⟩), .int .u64 2, .int .u64 1] w fun r w' => r = .returned (.int .i64 0) ∧ Turn b (winObj 4 2 1 1) w w' :=
  (take_any b 4 1 5 9 2 1 w hB (by decide) (by decide) (by decide) (by decide)).mono fun _ _ h => ⟨h.1.trans (reti (by decide)), h.2.win (by decide) (by decide) (by decide)⟩

theorem awake_5 (b : Nat) (w : World) (hB : Blk w b (winObj 4 2 1 1)) :
    Calls Try.prog 41 #[.pointer (some ⟨b, 0, none⟩), .int .u64 1, .int .u64 9] w fun r w' => r = .returned (.int .i64 25) ∧ Turn b (winObj 4 2 1 1) w w' :=
  (take_any b 4 2 1 1 1 9 w hB (by decide) (by decide) (by decide) (by decide)).mono fun _ _ h => ⟨h.1.trans (reti (by decide)), h.2.win (by decide) (by decide) (by decide)⟩

set_option maxHeartbeats 800000 in
theorem awake_any (w : World) : Calls Try.prog 37 #[] w fun r w' => r = .returned (.bool true) ∧ Below w.heap.size w w' := by
  go_enter Try.func37, Try.ntmps37
  go_wp2_with fail
  refine (new_yes 4 _ (by decide) (by decide)).mono ?_
  rintro r w1 ⟨rfl, rfl⟩
  have B0 := Blk.new w (winObj 4 0 0 0)
  have E0 : Below w.heap.size w (w.alloc (winObj 4 0 0 0)) := more (Below.refl _ _) _
  have S0 : w.heap.size ≤ (w.alloc (winObj 4 0 0 0)).heap.size := by simp
  revert B0 E0 S0
  generalize w.alloc (winObj 4 0 0 0) = wa
  generalize hb : w.heap.size = b
  intro B0 E0 S0
  have HB := Lib.hid hb
  clear hb
  go_wp2_with fail
  refine (awake_0 b _ B0).mono ?_
  rintro r w2 ⟨rfl, hT⟩
  replace E0 := E0.trans (hT.below (Nat.le_refl _) S0)
  replace S0 := Nat.le_trans S0 hT.size
  replace B0 := hT.blk
  clear hT
  go_wp2_with fail
  refine (awake_1 b _ B0).mono ?_
  rintro r w3 ⟨rfl, hT⟩
  replace E0 := E0.trans (hT.below (Nat.le_refl _) S0)
  replace S0 := Nat.le_trans S0 hT.size
  replace B0 := hT.blk
  clear hT
  go_wp2_with fail
  refine (awake_2 b _ B0).mono ?_
  rintro r w4 ⟨rfl, hT⟩
  replace E0 := E0.trans (hT.below (Nat.le_refl _) S0)
  replace S0 := Nat.le_trans S0 hT.size
  replace B0 := hT.blk
  clear hT
  go_wp2_with fail
  refine (awake_3 b _ B0).mono ?_
  rintro r w5 ⟨rfl, hT⟩
  replace E0 := E0.trans (hT.below (Nat.le_refl _) S0)
  replace S0 := Nat.le_trans S0 hT.size
  replace B0 := hT.blk
  clear hT
  go_wp2_with fail
  refine (awake_4 b _ B0).mono ?_
  rintro r w6 ⟨rfl, hT⟩
  replace E0 := E0.trans (hT.below (Nat.le_refl _) S0)
  replace S0 := Nat.le_trans S0 hT.size
  replace B0 := hT.blk
  clear hT
  go_wp2_with fail
  refine (awake_5 b _ B0).mono ?_
  rintro r w7 ⟨rfl, hT⟩
  replace E0 := E0.trans (hT.below (Nat.le_refl _) S0)
  replace S0 := Nat.le_trans S0 hT.size
  replace B0 := hT.blk
  clear hT
  go_wp2_with fail
  go_ret
  exact ⟨rfl, by rw [HB.out]; exact E0⟩
end Go.Proofs.Ytoembbdjpelogaa
