/-
  The contract of Out's numbers of 1, 4, 8 bytes.
-/
import Derived.Test.YtioeaknhcfkfcaaOutB
namespace Go.Proofs.Ytioeaknhcfkfcaa
open Go.RowKit

set_option maxHeartbeats 6400000 in
theorem number_1 (O : Nat) (v : Value) (l : List Int) (f : Bool) (n : Int) (w : World) (h : OutIs w O v l f) (hn0 : 0 ≤ n) (hn1 : n < 18446744073709551616) (hlen : l.length ≤ 1000000000000) :
    Calls Try.prog 50 #[.pointer (some ⟨O, 0, none⟩), .int .u64 n, .int .i64 1] w (NumPost O v l f n 1 w) := by
  have H := Lib.hid h
  clear h
  by_cases hbig : 256 ≤ n
  · have hl : Hid (numL l f n 1 = [] ∧ numF f n 1 = true) := by
      unfold Hid numL numF
      rw [if_pos (by simpa using hbig)]
      exact ⟨rfl, by simp; right; simpa using hbig⟩
    have t0 : (n / 256 == 0) = false := by simp; omega
    have t0' : (n / 256 != 0) = true := by simp; omega
    clear hbig
    go_enter Try.func50, Try.ntmps50
    go_wp2_with fail
    refine (giveUp_any O v l f _ H.out).mono ?_
    rintro r w1 ⟨rfl, h1⟩
    have H1 := Lib.hid h1
    clear h1
    go_wp2_with fail
    go_end0
    exact ⟨rfl, _, by rw [hl.out.1, hl.out.2]; exact H1.out⟩
  · have hl : Hid (partL l f n 1 1 = numL l f n 1 ∧ numF f n 1 = f) := by
      refine ⟨partL_all l f n 1 (by simpa using hbig), ?_⟩
      unfold numF
      rw [decide_eq_false (by simpa using hbig), Bool.or_false]
    have t0 : (n / 256 == 0) = true := by simp; omega
    have t0' : (n / 256 != 0) = false := by simp; omega
    go_enter Try.func50, Try.ntmps50
    go_wp2_with fail
    have HST := Lib.hid (OutStep.below H.out (Below.refl _ w))
    go_loopw [6] (fun c wr => ∃ i : Nat, ∃ vr, i ≤ 1 ∧ c = .int .i64 ((1 : Int) - 1 - i) ∧ OutStep O v vr (partL l f n 1 i) f w wr) (fun c _ => (intOf c + 1).toNat)
    case atStart => exact ⟨0, v, by omega, rfl, by rw [partL_none]; exact HST.out⟩
    case round =>
      obtain ⟨i, vr, hi, rfl, hst⟩ := hrel
      have HSR := Lib.hid hst
      clear hst
      have hcs : i = 0 ∨ i = 1 := by omega
      rcases hcs with rfl | rfl
      · have hx : Hid (n = n / 256 ^ (1 - 1 - 0) % 256) := by unfold Hid; simp; omega
        have hx0 : 0 ≤ n ∧ n ≤ 255 := by omega
        have HX0 := Lib.hid hx0
        clear hx0
        go_wp2_with fail
        refine (put_any O _ vr _ _ [n] f _ (HSR.out.is.keep (more (Below.refl _ _) _)) (HoldsB.one wr n HX0.out.1 HX0.out.2) (by have := partL_len l f n 1 0; simp; omega)).mono ?_
        rintro r w2 ⟨rfl, v2, h2⟩
        have H2 := Lib.hid h2
        clear h2
        go_wp2_with fail
        exact ⟨⟨1, v2, by omega, by go_num, by have := HSR.out.trans (OutStep.ahead HSR.out.is (more (Below.refl _ _) _) H2.out); rw [partL_step (by omega) hx.out] at this; exact this⟩, by simp [intOf]⟩
      · go_wp2_with fail
        go_end0
        exact ⟨rfl, vr, by rw [← hl.out.1, hl.out.2]; exact HSR.out⟩

set_option maxHeartbeats 6400000 in
theorem number_4 (O : Nat) (v : Value) (l : List Int) (f : Bool) (n : Int) (w : World) (h : OutIs w O v l f) (hn0 : 0 ≤ n) (hn1 : n < 18446744073709551616) (hlen : l.length ≤ 1000000000000) :
    Calls Try.prog 50 #[.pointer (some ⟨O, 0, none⟩), .int .u64 n, .int .i64 4] w (NumPost O v l f n 4 w) := by
  have H := Lib.hid h
  clear h
  by_cases hbig : 4294967296 ≤ n
  · have hl : Hid (numL l f n 4 = [] ∧ numF f n 4 = true) := by
      unfold Hid numL numF
      rw [if_pos (by simpa using hbig)]
      exact ⟨rfl, by simp; right; simpa using hbig⟩
    have t0 : (n / 4294967296 == 0) = false := by simp; omega
    have t0' : (n / 4294967296 != 0) = true := by simp; omega
    clear hbig
    go_enter Try.func50, Try.ntmps50
    go_wp2_with fail
    refine (giveUp_any O v l f _ H.out).mono ?_
    rintro r w1 ⟨rfl, h1⟩
    have H1 := Lib.hid h1
    clear h1
    go_wp2_with fail
    go_end0
    exact ⟨rfl, _, by rw [hl.out.1, hl.out.2]; exact H1.out⟩
  · have hl : Hid (partL l f n 4 4 = numL l f n 4 ∧ numF f n 4 = f) := by
      refine ⟨partL_all l f n 4 (by simpa using hbig), ?_⟩
      unfold numF
      rw [decide_eq_false (by simpa using hbig), Bool.or_false]
    have t0 : (n / 4294967296 == 0) = true := by simp; omega
    have t0' : (n / 4294967296 != 0) = false := by simp; omega
    go_enter Try.func50, Try.ntmps50
    go_wp2_with fail
    have HST := Lib.hid (OutStep.below H.out (Below.refl _ w))
    go_loopw [6] (fun c wr => ∃ i : Nat, ∃ vr, i ≤ 4 ∧ c = .int .i64 ((4 : Int) - 1 - i) ∧ OutStep O v vr (partL l f n 4 i) f w wr) (fun c _ => (intOf c + 1).toNat)
    case atStart => exact ⟨0, v, by omega, rfl, by rw [partL_none]; exact HST.out⟩
    case round =>
      obtain ⟨i, vr, hi, rfl, hst⟩ := hrel
      have HSR := Lib.hid hst
      clear hst
      have hcs : i = 0 ∨ i = 1 ∨ i = 2 ∨ i = 3 ∨ i = 4 := by omega
      rcases hcs with rfl | rfl | rfl | rfl | rfl
      · have hx : Hid (n / 16777216 = n / 256 ^ (4 - 1 - 0) % 256) := by unfold Hid; simp; omega
        have hx0 : 0 ≤ n / 16777216 ∧ n / 16777216 ≤ 255 := by omega
        have HX0 := Lib.hid hx0
        clear hx0
        go_wp2_with fail
        generalize hxe : n / 16777216 = x at hx HX0 ⊢
        refine (put_any O _ vr _ _ [x] f _ (HSR.out.is.keep (more (Below.refl _ _) _)) (HoldsB.one wr x HX0.out.1 HX0.out.2) (by have := partL_len l f n 4 0; simp; omega)).mono ?_
        rintro r w2 ⟨rfl, v2, h2⟩
        have H2 := Lib.hid h2
        clear h2
        go_wp2_with fail
        exact ⟨⟨1, v2, by omega, by go_num, by have := HSR.out.trans (OutStep.ahead HSR.out.is (more (Below.refl _ _) _) H2.out); rw [partL_step (by omega) hx.out] at this; exact this⟩, by simp [intOf]⟩
      · have hx : Hid (n / 65536 % 256 = n / 256 ^ (4 - 1 - 1) % 256) := by unfold Hid; simp
        have hx0 : 0 ≤ n / 65536 % 256 ∧ n / 65536 % 256 ≤ 255 := by omega
        have HX0 := Lib.hid hx0
        clear hx0
        go_wp2_with fail
        generalize hxe : n / 65536 % 256 = x at hx HX0 ⊢
        refine (put_any O _ vr _ _ [x] f _ (HSR.out.is.keep (more (Below.refl _ _) _)) (HoldsB.one wr x HX0.out.1 HX0.out.2) (by have := partL_len l f n 4 1; simp; omega)).mono ?_
        rintro r w2 ⟨rfl, v2, h2⟩
        have H2 := Lib.hid h2
        clear h2
        go_wp2_with fail
        exact ⟨⟨2, v2, by omega, by go_num, by have := HSR.out.trans (OutStep.ahead HSR.out.is (more (Below.refl _ _) _) H2.out); rw [partL_step (by omega) hx.out] at this; exact this⟩, by simp [intOf]⟩
      · have hx : Hid (n / 256 % 256 = n / 256 ^ (4 - 1 - 2) % 256) := by unfold Hid; simp
        have hx0 : 0 ≤ n / 256 % 256 ∧ n / 256 % 256 ≤ 255 := by omega
        have HX0 := Lib.hid hx0
        clear hx0
        go_wp2_with fail
        generalize hxe : n / 256 % 256 = x at hx HX0 ⊢
        refine (put_any O _ vr _ _ [x] f _ (HSR.out.is.keep (more (Below.refl _ _) _)) (HoldsB.one wr x HX0.out.1 HX0.out.2) (by have := partL_len l f n 4 2; simp; omega)).mono ?_
        rintro r w2 ⟨rfl, v2, h2⟩
        have H2 := Lib.hid h2
        clear h2
        go_wp2_with fail
        exact ⟨⟨3, v2, by omega, by go_num, by have := HSR.out.trans (OutStep.ahead HSR.out.is (more (Below.refl _ _) _) H2.out); rw [partL_step (by omega) hx.out] at this; exact this⟩, by simp [intOf]⟩
      · have hx : Hid (n % 256 = n / 256 ^ (4 - 1 - 3) % 256) := by unfold Hid; simp
        have hx0 : 0 ≤ n % 256 ∧ n % 256 ≤ 255 := by omega
        have HX0 := Lib.hid hx0
        clear hx0
        go_wp2_with fail
        generalize hxe : n % 256 = x at hx HX0 ⊢
        refine (put_any O _ vr _ _ [x] f _ (HSR.out.is.keep (more (Below.refl _ _) _)) (HoldsB.one wr x HX0.out.1 HX0.out.2) (by have := partL_len l f n 4 3; simp; omega)).mono ?_
        rintro r w2 ⟨rfl, v2, h2⟩
        have H2 := Lib.hid h2
        clear h2
        go_wp2_with fail
        exact ⟨⟨4, v2, by omega, by go_num, by have := HSR.out.trans (OutStep.ahead HSR.out.is (more (Below.refl _ _) _) H2.out); rw [partL_step (by omega) hx.out] at this; exact this⟩, by simp [intOf]⟩
      · go_wp2_with fail
        go_end0
        exact ⟨rfl, vr, by rw [← hl.out.1, hl.out.2]; exact HSR.out⟩

set_option maxHeartbeats 6400000 in
theorem number_8 (O : Nat) (v : Value) (l : List Int) (f : Bool) (n : Int) (w : World) (h : OutIs w O v l f) (hn0 : 0 ≤ n) (hn1 : n < 18446744073709551616) (hlen : l.length ≤ 1000000000000) :
    Calls Try.prog 50 #[.pointer (some ⟨O, 0, none⟩), .int .u64 n, .int .i64 8] w (NumPost O v l f n 8 w) := by
  have H := Lib.hid h
  clear h
  have hbig : ¬ (18446744073709551616 : Int) ≤ n := by omega
  have hl : Hid (partL l f n 8 8 = numL l f n 8 ∧ numF f n 8 = f) := by
    refine ⟨partL_all l f n 8 (by simpa using hbig), ?_⟩
    unfold numF
    rw [decide_eq_false (by simpa using hbig), Bool.or_false]
  have t0 : (n / 18446744073709551616 == 0) = true := by simp; omega
  have t0' : (n / 18446744073709551616 != 0) = false := by simp; omega
  go_enter Try.func50, Try.ntmps50
  go_wp2_with fail
  have HST := Lib.hid (OutStep.below H.out (Below.refl _ w))
  go_loopw [6] (fun c wr => ∃ i : Nat, ∃ vr, i ≤ 8 ∧ c = .int .i64 ((8 : Int) - 1 - i) ∧ OutStep O v vr (partL l f n 8 i) f w wr) (fun c _ => (intOf c + 1).toNat)
  case atStart => exact ⟨0, v, by omega, rfl, by rw [partL_none]; exact HST.out⟩
  case round =>
    obtain ⟨i, vr, hi, rfl, hst⟩ := hrel
    have HSR := Lib.hid hst
    clear hst
    have hcs : i = 0 ∨ i = 1 ∨ i = 2 ∨ i = 3 ∨ i = 4 ∨ i = 5 ∨ i = 6 ∨ i = 7 ∨ i = 8 := by omega
    rcases hcs with rfl | rfl | rfl | rfl | rfl | rfl | rfl | rfl | rfl
    · have hx : Hid (n / 72057594037927936 = n / 256 ^ (8 - 1 - 0) % 256) := by unfold Hid; simp; omega
      have hx0 : 0 ≤ n / 72057594037927936 ∧ n / 72057594037927936 ≤ 255 := by omega
      have HX0 := Lib.hid hx0
      clear hx0
      go_wp2_with fail
      generalize hxe : n / 72057594037927936 = x at hx HX0 ⊢
      refine (put_any O _ vr _ _ [x] f _ (HSR.out.is.keep (more (Below.refl _ _) _)) (HoldsB.one wr x HX0.out.1 HX0.out.2) (by have := partL_len l f n 8 0; simp; omega)).mono ?_
      rintro r w2 ⟨rfl, v2, h2⟩
      have H2 := Lib.hid h2
      clear h2
      go_wp2_with fail
      exact ⟨⟨1, v2, by omega, by go_num, by have := HSR.out.trans (OutStep.ahead HSR.out.is (more (Below.refl _ _) _) H2.out); rw [partL_step (by omega) hx.out] at this; exact this⟩, by simp [intOf]⟩
    · have hx : Hid (n / 281474976710656 % 256 = n / 256 ^ (8 - 1 - 1) % 256) := by unfold Hid; simp
      have hx0 : 0 ≤ n / 281474976710656 % 256 ∧ n / 281474976710656 % 256 ≤ 255 := by omega
      have HX0 := Lib.hid hx0
      clear hx0
      go_wp2_with fail
      generalize hxe : n / 281474976710656 % 256 = x at hx HX0 ⊢
      refine (put_any O _ vr _ _ [x] f _ (HSR.out.is.keep (more (Below.refl _ _) _)) (HoldsB.one wr x HX0.out.1 HX0.out.2) (by have := partL_len l f n 8 1; simp; omega)).mono ?_
      rintro r w2 ⟨rfl, v2, h2⟩
      have H2 := Lib.hid h2
      clear h2
      go_wp2_with fail
      exact ⟨⟨2, v2, by omega, by go_num, by have := HSR.out.trans (OutStep.ahead HSR.out.is (more (Below.refl _ _) _) H2.out); rw [partL_step (by omega) hx.out] at this; exact this⟩, by simp [intOf]⟩
    · have hx : Hid (n / 1099511627776 % 256 = n / 256 ^ (8 - 1 - 2) % 256) := by unfold Hid; simp
      have hx0 : 0 ≤ n / 1099511627776 % 256 ∧ n / 1099511627776 % 256 ≤ 255 := by omega
      have HX0 := Lib.hid hx0
      clear hx0
      go_wp2_with fail
      generalize hxe : n / 1099511627776 % 256 = x at hx HX0 ⊢
      refine (put_any O _ vr _ _ [x] f _ (HSR.out.is.keep (more (Below.refl _ _) _)) (HoldsB.one wr x HX0.out.1 HX0.out.2) (by have := partL_len l f n 8 2; simp; omega)).mono ?_
      rintro r w2 ⟨rfl, v2, h2⟩
      have H2 := Lib.hid h2
      clear h2
      go_wp2_with fail
      exact ⟨⟨3, v2, by omega, by go_num, by have := HSR.out.trans (OutStep.ahead HSR.out.is (more (Below.refl _ _) _) H2.out); rw [partL_step (by omega) hx.out] at this; exact this⟩, by simp [intOf]⟩
    · have hx : Hid (n / 4294967296 % 256 = n / 256 ^ (8 - 1 - 3) % 256) := by unfold Hid; simp
      have hx0 : 0 ≤ n / 4294967296 % 256 ∧ n / 4294967296 % 256 ≤ 255 := by omega
      have HX0 := Lib.hid hx0
      clear hx0
      go_wp2_with fail
      generalize hxe : n / 4294967296 % 256 = x at hx HX0 ⊢
      refine (put_any O _ vr _ _ [x] f _ (HSR.out.is.keep (more (Below.refl _ _) _)) (HoldsB.one wr x HX0.out.1 HX0.out.2) (by have := partL_len l f n 8 3; simp; omega)).mono ?_
      rintro r w2 ⟨rfl, v2, h2⟩
      have H2 := Lib.hid h2
      clear h2
      go_wp2_with fail
      exact ⟨⟨4, v2, by omega, by go_num, by have := HSR.out.trans (OutStep.ahead HSR.out.is (more (Below.refl _ _) _) H2.out); rw [partL_step (by omega) hx.out] at this; exact this⟩, by simp [intOf]⟩
    · have hx : Hid (n / 16777216 % 256 = n / 256 ^ (8 - 1 - 4) % 256) := by unfold Hid; simp
      have hx0 : 0 ≤ n / 16777216 % 256 ∧ n / 16777216 % 256 ≤ 255 := by omega
      have HX0 := Lib.hid hx0
      clear hx0
      go_wp2_with fail
      generalize hxe : n / 16777216 % 256 = x at hx HX0 ⊢
      refine (put_any O _ vr _ _ [x] f _ (HSR.out.is.keep (more (Below.refl _ _) _)) (HoldsB.one wr x HX0.out.1 HX0.out.2) (by have := partL_len l f n 8 4; simp; omega)).mono ?_
      rintro r w2 ⟨rfl, v2, h2⟩
      have H2 := Lib.hid h2
      clear h2
      go_wp2_with fail
      exact ⟨⟨5, v2, by omega, by go_num, by have := HSR.out.trans (OutStep.ahead HSR.out.is (more (Below.refl _ _) _) H2.out); rw [partL_step (by omega) hx.out] at this; exact this⟩, by simp [intOf]⟩
    · have hx : Hid (n / 65536 % 256 = n / 256 ^ (8 - 1 - 5) % 256) := by unfold Hid; simp
      have hx0 : 0 ≤ n / 65536 % 256 ∧ n / 65536 % 256 ≤ 255 := by omega
      have HX0 := Lib.hid hx0
      clear hx0
      go_wp2_with fail
      generalize hxe : n / 65536 % 256 = x at hx HX0 ⊢
      refine (put_any O _ vr _ _ [x] f _ (HSR.out.is.keep (more (Below.refl _ _) _)) (HoldsB.one wr x HX0.out.1 HX0.out.2) (by have := partL_len l f n 8 5; simp; omega)).mono ?_
      rintro r w2 ⟨rfl, v2, h2⟩
      have H2 := Lib.hid h2
      clear h2
      go_wp2_with fail
      exact ⟨⟨6, v2, by omega, by go_num, by have := HSR.out.trans (OutStep.ahead HSR.out.is (more (Below.refl _ _) _) H2.out); rw [partL_step (by omega) hx.out] at this; exact this⟩, by simp [intOf]⟩
    · have hx : Hid (n / 256 % 256 = n / 256 ^ (8 - 1 - 6) % 256) := by unfold Hid; simp
      have hx0 : 0 ≤ n / 256 % 256 ∧ n / 256 % 256 ≤ 255 := by omega
      have HX0 := Lib.hid hx0
      clear hx0
      go_wp2_with fail
      generalize hxe : n / 256 % 256 = x at hx HX0 ⊢
      refine (put_any O _ vr _ _ [x] f _ (HSR.out.is.keep (more (Below.refl _ _) _)) (HoldsB.one wr x HX0.out.1 HX0.out.2) (by have := partL_len l f n 8 6; simp; omega)).mono ?_
      rintro r w2 ⟨rfl, v2, h2⟩
      have H2 := Lib.hid h2
      clear h2
      go_wp2_with fail
      exact ⟨⟨7, v2, by omega, by go_num, by have := HSR.out.trans (OutStep.ahead HSR.out.is (more (Below.refl _ _) _) H2.out); rw [partL_step (by omega) hx.out] at this; exact this⟩, by simp [intOf]⟩
    · have hx : Hid (n % 256 = n / 256 ^ (8 - 1 - 7) % 256) := by unfold Hid; simp
      have hx0 : 0 ≤ n % 256 ∧ n % 256 ≤ 255 := by omega
      have HX0 := Lib.hid hx0
      clear hx0
      go_wp2_with fail
      generalize hxe : n % 256 = x at hx HX0 ⊢
      refine (put_any O _ vr _ _ [x] f _ (HSR.out.is.keep (more (Below.refl _ _) _)) (HoldsB.one wr x HX0.out.1 HX0.out.2) (by have := partL_len l f n 8 7; simp; omega)).mono ?_
      rintro r w2 ⟨rfl, v2, h2⟩
      have H2 := Lib.hid h2
      clear h2
      go_wp2_with fail
      exact ⟨⟨8, v2, by omega, by go_num, by have := HSR.out.trans (OutStep.ahead HSR.out.is (more (Below.refl _ _) _) H2.out); rw [partL_step (by omega) hx.out] at this; exact this⟩, by simp [intOf]⟩
    · go_wp2_with fail
      go_end0
      exact ⟨rfl, vr, by rw [← hl.out.1, hl.out.2]; exact HSR.out⟩

end Go.Proofs.Ytioeaknhcfkfcaa
