/-
  The walk of the law FieldNil.
-/
import Derived.Test.YtgpjffchpppceaaAwake
import Derived.Test.YtgpjffchpppceaaEq
namespace Go.Proofs.Ytgpjffchpppceaa
open Go.RowKit

abbrev Quiet (v : Value) (w : World) : Ending → World → Prop := fun r w' => r = .returned v ∧ Below w.heap.size w w'

theorem put_nil (s : Value) (w : World) : Calls Try.prog 52 #[.pointer none, s] w (Quiet (.tuple #[]) w) := by
  go_enter Try.func52, Try.ntmps52
  go_wp2_with fail
  go_end0
  exact ⟨rfl, Below.refl _ _⟩
theorem giveUp_nil (w : World) : Calls Try.prog 53 #[.pointer none] w (Quiet (.tuple #[]) w) := by
  go_enter Try.func53, Try.ntmps53
  go_wp2_with fail
  go_end0
  exact ⟨rfl, Below.refl _ _⟩
set_option maxHeartbeats 800000 in
theorem number_nil1 (n : Int) (w : World) (hn0 : 0 ≤ n) : Calls Try.prog 51 #[.pointer none, .int .u64 n, .int .i64 1] w (Quiet (.tuple #[]) w) := by
  by_cases h : n < 256
  all_goals
    first | (have t0 : (n / 256 == 0) = true := by simp; omega) | (have t0 : (n / 256 == 0) = false := by simp; omega)
    first | (have t0' : (n / 256 != 0) = false := by simp; omega) | (have t0' : (n / 256 != 0) = true := by simp; omega)
    go_enter Try.func51, Try.ntmps51
    go_wp2_with fail
  · go_loopw [6] (fun c wr => (c = .int .i64 0 ∨ c = .int .i64 (-1)) ∧ Below w.heap.size w wr) (fun c _ => (intOf c + 1).toNat)
    case atStart => exact ⟨.inl rfl, Below.refl _ _⟩
    case round =>
      obtain ⟨rfl | rfl, hE⟩ := hrel
      · have HE := Lib.hid hE
        clear hE
        go_wp2_with fail
        refine (put_nil _ _).mono ?_
        rintro r w2 ⟨rfl, hb⟩
        have HE2 := Lib.hid (thru (more HE.out _) hb)
        clear hb
        go_wp2_with fail
        exact ⟨⟨.inr rfl, HE2.out⟩, by simp [intOf]⟩
      · have HE := Lib.hid hE
        clear hE
        go_wp2_with fail
        go_end0
        exact ⟨rfl, HE.out⟩
  · refine (giveUp_nil _).mono ?_
    rintro r w2 ⟨rfl, hb⟩
    go_wp2_with fail
    go_end0
    exact ⟨rfl, hb⟩

set_option maxHeartbeats 800000 in
theorem number_nil2 (n : Int) (w : World) (hn0 : 0 ≤ n) : Calls Try.prog 51 #[.pointer none, .int .u64 n, .int .i64 2] w (Quiet (.tuple #[]) w) := by
  by_cases h : n < 65536
  all_goals
    first | (have t0 : (n / 65536 == 0) = true := by simp; omega) | (have t0 : (n / 65536 == 0) = false := by simp; omega)
    first | (have t0' : (n / 65536 != 0) = false := by simp; omega) | (have t0' : (n / 65536 != 0) = true := by simp; omega)
    go_enter Try.func51, Try.ntmps51
    go_wp2_with fail
  · go_loopw [6] (fun c wr => (c = .int .i64 1 ∨ c = .int .i64 0 ∨ c = .int .i64 (-1)) ∧ Below w.heap.size w wr) (fun c _ => (intOf c + 1).toNat)
    case atStart => exact ⟨.inl rfl, Below.refl _ _⟩
    case round =>
      obtain ⟨rfl | rfl | rfl, hE⟩ := hrel
      · have HE := Lib.hid hE
        clear hE
        go_wp2_with fail
        refine (put_nil _ _).mono ?_
        rintro r w2 ⟨rfl, hb⟩
        have HE2 := Lib.hid (thru (more HE.out _) hb)
        clear hb
        go_wp2_with fail
        exact ⟨⟨(.inr (.inl rfl)), HE2.out⟩, by simp [intOf]⟩
      · have HE := Lib.hid hE
        clear hE
        go_wp2_with fail
        refine (put_nil _ _).mono ?_
        rintro r w2 ⟨rfl, hb⟩
        have HE2 := Lib.hid (thru (more HE.out _) hb)
        clear hb
        go_wp2_with fail
        exact ⟨⟨(.inr (.inr rfl)), HE2.out⟩, by simp [intOf]⟩
      · have HE := Lib.hid hE
        clear hE
        go_wp2_with fail
        go_end0
        exact ⟨rfl, HE.out⟩
  · refine (giveUp_nil _).mono ?_
    rintro r w2 ⟨rfl, hb⟩
    go_wp2_with fail
    go_end0
    exact ⟨rfl, hb⟩

set_option maxHeartbeats 1600000 in
theorem number_nil8 (n : Int) (w : World) (hn0 : 0 ≤ n) (hn1 : n < 18446744073709551616) : Calls Try.prog 51 #[.pointer none, .int .u64 n, .int .i64 8] w (Quiet (.tuple #[]) w) := by
  have t0 : (n / 18446744073709551616 == 0) = true := by simp; omega
  have t0' : (n / 18446744073709551616 != 0) = false := by simp; omega
  go_enter Try.func51, Try.ntmps51
  go_wp2_with fail
  go_loopw [6] (fun c wr => (c = .int .i64 7 ∨ c = .int .i64 6 ∨ c = .int .i64 5 ∨ c = .int .i64 4 ∨ c = .int .i64 3 ∨ c = .int .i64 2 ∨ c = .int .i64 1 ∨ c = .int .i64 0 ∨ c = .int .i64 (-1)) ∧ Below w.heap.size w wr) (fun c _ => (intOf c + 1).toNat)
  case atStart => exact ⟨.inl rfl, Below.refl _ _⟩
  case round =>
    obtain ⟨rfl | rfl | rfl | rfl | rfl | rfl | rfl | rfl | rfl, hE⟩ := hrel
    · have HE := Lib.hid hE
      clear hE
      go_wp2_with fail
      refine (put_nil _ _).mono ?_
      rintro r w2 ⟨rfl, hb⟩
      have HE2 := Lib.hid (thru (more HE.out _) hb)
      clear hb
      go_wp2_with fail
      exact ⟨⟨(.inr (.inl rfl)), HE2.out⟩, by simp [intOf]⟩
    · have HE := Lib.hid hE
      clear hE
      go_wp2_with fail
      refine (put_nil _ _).mono ?_
      rintro r w2 ⟨rfl, hb⟩
      have HE2 := Lib.hid (thru (more HE.out _) hb)
      clear hb
      go_wp2_with fail
      exact ⟨⟨(.inr (.inr (.inl rfl))), HE2.out⟩, by simp [intOf]⟩
    · have HE := Lib.hid hE
      clear hE
      go_wp2_with fail
      refine (put_nil _ _).mono ?_
      rintro r w2 ⟨rfl, hb⟩
      have HE2 := Lib.hid (thru (more HE.out _) hb)
      clear hb
      go_wp2_with fail
      exact ⟨⟨(.inr (.inr (.inr (.inl rfl)))), HE2.out⟩, by simp [intOf]⟩
    · have HE := Lib.hid hE
      clear hE
      go_wp2_with fail
      refine (put_nil _ _).mono ?_
      rintro r w2 ⟨rfl, hb⟩
      have HE2 := Lib.hid (thru (more HE.out _) hb)
      clear hb
      go_wp2_with fail
      exact ⟨⟨(.inr (.inr (.inr (.inr (.inl rfl))))), HE2.out⟩, by simp [intOf]⟩
    · have HE := Lib.hid hE
      clear hE
      go_wp2_with fail
      refine (put_nil _ _).mono ?_
      rintro r w2 ⟨rfl, hb⟩
      have HE2 := Lib.hid (thru (more HE.out _) hb)
      clear hb
      go_wp2_with fail
      exact ⟨⟨(.inr (.inr (.inr (.inr (.inr (.inl rfl)))))), HE2.out⟩, by simp [intOf]⟩
    · have HE := Lib.hid hE
      clear hE
      go_wp2_with fail
      refine (put_nil _ _).mono ?_
      rintro r w2 ⟨rfl, hb⟩
      have HE2 := Lib.hid (thru (more HE.out _) hb)
      clear hb
      go_wp2_with fail
      exact ⟨⟨(.inr (.inr (.inr (.inr (.inr (.inr (.inl rfl))))))), HE2.out⟩, by simp [intOf]⟩
    · have HE := Lib.hid hE
      clear hE
      go_wp2_with fail
      refine (put_nil _ _).mono ?_
      rintro r w2 ⟨rfl, hb⟩
      have HE2 := Lib.hid (thru (more HE.out _) hb)
      clear hb
      go_wp2_with fail
      exact ⟨⟨(.inr (.inr (.inr (.inr (.inr (.inr (.inr (.inl rfl)))))))), HE2.out⟩, by simp [intOf]⟩
    · have HE := Lib.hid hE
      clear hE
      go_wp2_with fail
      refine (put_nil _ _).mono ?_
      rintro r w2 ⟨rfl, hb⟩
      have HE2 := Lib.hid (thru (more HE.out _) hb)
      clear hb
      go_wp2_with fail
      exact ⟨⟨(.inr (.inr (.inr (.inr (.inr (.inr (.inr (.inr rfl)))))))), HE2.out⟩, by simp [intOf]⟩
    · have HE := Lib.hid hE
      clear hE
      go_wp2_with fail
      go_end0
      exact ⟨rfl, HE.out⟩

theorem u8_nil (n : Int) (w : World) (hn0 : 0 ≤ n) : Calls Try.prog 29 #[.pointer none, .int .u64 n] w (Quiet (.tuple #[]) w) := by
  go_enter Try.func29, Try.ntmps29
  go_wp2_with fail
  refine (number_nil1 n _ hn0).mono ?_
  rintro r w1 ⟨rfl, h1⟩
  go_wp2_with fail
  go_end0
  exact ⟨rfl, h1⟩

theorem u16_nil (n : Int) (w : World) (hn0 : 0 ≤ n) : Calls Try.prog 35 #[.pointer none, .int .u64 n] w (Quiet (.tuple #[]) w) := by
  go_enter Try.func35, Try.ntmps35
  go_wp2_with fail
  refine (number_nil2 n _ hn0).mono ?_
  rintro r w1 ⟨rfl, h1⟩
  go_wp2_with fail
  go_end0
  exact ⟨rfl, h1⟩

theorem u64_nil (n : Int) (w : World) (hn0 : 0 ≤ n) (hn1 : n < 18446744073709551616) : Calls Try.prog 30 #[.pointer none, .int .u64 n] w (Quiet (.tuple #[]) w) := by
  go_enter Try.func30, Try.ntmps30
  go_wp2_with fail
  refine (number_nil8 n _ hn0 hn1).mono ?_
  rintro r w1 ⟨rfl, h1⟩
  go_wp2_with fail
  go_end0
  exact ⟨rfl, h1⟩

set_option maxHeartbeats 800000 in
theorem sum_nil (w : World) (C : Array Value) (hC : C = #[.int .u8 0, .int .u8 0, .int .u8 0, .int .u8 0, .int .u8 0, .int .u8 0, .int .u8 0, .int .u8 0, .int .u8 0, .int .u8 0, .int .u8 0, .int .u8 0, .int .u8 0, .int .u8 0, .int .u8 0, .int .u8 0]) :
    Calls Try.prog 31 #[.pointer none, .agg C] w (Quiet (.tuple #[]) w) := by
  subst hC
  go_enter Try.func31, Try.ntmps31
  go_wp2_with fail
  refine (put_nil _ _).mono ?_
  rintro r w2 ⟨rfl, hb⟩
  have E := thru (more (Below.refl _ w) _) hb
  go_wp2_with fail
  go_end0
  exact ⟨rfl, E⟩
set_option maxHeartbeats 800000 in
theorem sums_nil (w : World) : Calls Try.prog 32 #[.pointer none, .slice none 0 0] w (Quiet (.tuple #[]) w) := by
  go_enter Try.func32, Try.ntmps32
  go_wp2_with fail
  refine (u8_nil 0 _ (by omega)).mono ?_
  rintro r w2 ⟨rfl, hb⟩
  have HB := Lib.hid hb
  clear hb
  go_wp2_with fail
  go_loopw [13] (fun c wr => c = .int .i64 0 ∧ wr = w2) (fun _ _ => 0)
  case atStart => exact ⟨rfl, rfl⟩
  case round =>
    obtain ⟨rfl, rfl⟩ := hrel
    go_wp2_with fail
    go_end0
    exact ⟨rfl, HB.out⟩
set_option maxHeartbeats 800000 in
theorem blob_nil (a : Option Addr) (n cap : Nat) (w : World) (hn : n ≤ maxLen) : Calls Try.prog 33 #[.pointer none, .slice a n cap] w (Quiet (.tuple #[]) w) := by
  unfold maxLen at hn
  by_cases h : 4096 < n
  · have h' : (4096 : Int) < n := by omega
    go_enter Try.func33, Try.ntmps33
    go_wp2_with fail
    refine (giveUp_nil _).mono ?_
    rintro r w2 ⟨rfl, hb⟩
    go_wp2_with fail
    go_end0
    exact ⟨rfl, hb⟩
  · have h' : (n : Int) ≤ 4096 := by omega
    go_enter Try.func33, Try.ntmps33
    go_wp2_with fail
    refine (u16_nil _ _ (by omega)).mono ?_
    rintro r w2 ⟨rfl, hb⟩
    have HB := Lib.hid hb
    clear hb
    go_wp2_with fail
    refine (put_nil _ _).mono ?_
    rintro r w3 ⟨rfl, hb3⟩
    have HB3 := Lib.hid (thru HB.out hb3)
    clear hb3
    go_wp2_with fail
    go_end0
    exact ⟨rfl, HB3.out⟩
theorem bytes_nil (w : World) : Calls Try.prog 11 #[.pointer none] w (Quiet (.tuple #[.slice none 0 0, .int .i64 2]) w) := by
  go_enter Try.func11, Try.ntmps11
  go_wp2_with fail
  go_ret2
  exact ⟨rfl, Below.refl _ _⟩
theorem fail_nil (f : Int) (w : World) : Calls Try.prog 27 #[.pointer none, .int .i64 f] w (Quiet (.tuple #[]) w) := by
  go_enter Try.func27, Try.ntmps27
  go_wp2_with fail
  go_end0
  exact ⟨rfl, Below.refl _ _⟩
theorem left_nil (w : World) : Calls Try.prog 28 #[.pointer none] w (Quiet (.int .i64 0) w) := by
  go_enter Try.func28, Try.ntmps28
  go_wp2_with fail
  go_ret
  exact ⟨rfl, Below.refl _ _⟩
theorem err_nil (w : World) : Calls Try.prog 26 #[.pointer none] w (Quiet (.int .i64 2) w) := by
  go_enter Try.func26, Try.ntmps26
  go_wp2_with fail
  go_ret
  exact ⟨rfl, Below.refl _ _⟩
end Go.Proofs.Ytgpjffchpppceaa
