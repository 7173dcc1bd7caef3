/-
  The law MacCosts, walked.
-/
import Derived.Test.YtkdejiggblngkaaDoorAwake5
import Derived.Test.YtkdejiggblngkaaDoorLEdges
namespace Go.Proofs.YtkdejiggblngkaaDoor
open Go.RowKit

theorem cost_eq {a : Int} (n b : Nat) (hn : n = 64 + b) : costI a b = (if 64 < a then blkI a else 0) + (blocks n : Nat) + 2 := by
  unfold costI
  rw [← blkI_nat]
  have : blkI (n : Nat) = blkI (b : Nat) + 1 := by
    rw [show ((n : Nat) : Int) = 64 + (b : Int) by omega]
    have h0 : (0 : Int) ≤ b := by omega
    generalize (b : Int) = c at *
    unfold blkI
    rw [if_neg (show ¬ (64 + c < 0) by omega), if_neg (show ¬ (c < 0) by omega)]
    split <;> split <;> omega
  omega
set_option maxRecDepth 100000 in
set_option maxHeartbeats 1000000 in
theorem macCosts_walk (x0 x1 : Int) (w : World) (w0 : (Lit.int .u16 x0).wf = true) (w1 : (Lit.int .u16 x1).wf = true) (hk : KonIs w) :
    Calls Tryd.prog 9 #[.int .u16 x0, .int .u16 x1] w fun e w' => e = .returned (.bool true) ∧ Below w.heap.size w w' := by
  have h1 : IntKind.u16.min = 0 := rfl
  have h2 : IntKind.u16.max = 65535 := rfl
  simp [Lit.wf, h1, h2] at w0 w1
  have HK := Kp.mk hk
  have HPos := Kp.mk hk.pos
  clear hk h1 h2
  obtain ⟨a, ha⟩ : ∃ a : Nat, x0 % 300 = a := ⟨(x0 % 300).toNat, by omega⟩
  obtain ⟨b, hb⟩ : ∃ b : Nat, x1 % 2000 = b := ⟨(x1 % 2000).toNat, by omega⟩
  have ha3 : a < 300 := by omega
  have hb3 : b < 2000 := by omega
  obtain ⟨n, hn⟩ : ∃ n : Nat, n = 64 + b := ⟨_, rfl⟩
  have hnI : (64 : Int) + b = (n : Int) := by omega
  obtain ⟨i0, hi, hz0, hz1, hz2⟩ := info_parts info5
  have hb5 : i0.bytes * n ≤ 281474976710656 := by rw [hz2]; omega
  have hm : n ≤ maxLen := by unfold maxLen; omega
  have HM := Kp.mk hm
  have HI := Kp.mk hi
  have HI0 := Kp.mk hz0
  have HI1 := Kp.mk hz1
  have HB5 := Kp.mk hb5
  have HN := Kp.mk hn
  have HNI := Kp.mk hnI
  have HCE := Kp.mk (cost_eq (a := a) n b hn)
  clear hi hz0 hz1 hz2 hb5 hm hn hnI
  go_enter Tryd.func9, Tryd.ntmps9
  go_wp2_with fail
  refine (new_any w).mono ?_
  rintro r w2 ⟨rfl, hh, hbe⟩
  have HH := Kp.mk hh
  have HB2 := Kp.mk hbe
  have HLt : Kp (w.heap.size < w2.heap.size) := ⟨hh.lt⟩
  clear hh hbe
  go_wp2_with (refine wpList_make_full _ rfl _ _ 22 rfl w2.heap.size 5 i0 (.int .u8 0) 1 Tryd.underlying22 HI.out HI0.out HI1.out _ _ _ _ n rfl rfl HNI.out HNI.out HB5.out HM.out (Nat.le_refl _) ?_)
  intro w3 ho hg
  rw [madeCells_bytes] at ho
  have hr := row_of_made ho (by simp)
  have HB3 : Kp (Below w2.heap.size w2 w3) := ⟨⟨hg.os, hg.tape, hg.output, hg.size, fun k hk => hg.block k hk (by simp)⟩⟩
  have HBe : Kp (Below w.heap.size w w3) := ⟨HB2.out.trans (HB3.out.mono HB2.out.size)⟩
  have HX : Kp (HoldsX w3 w.heap.size (.slice (some ⟨w2.heap.size, 0, none⟩) n n) (List.replicate n 0)) := ⟨by
    have h := HoldsB.ofBytes hr (zeros_bytes n) (by rw [List.length_replicate]; exact HM.out)
    rw [List.length_replicate] at h
    refine ⟨h, ?_⟩
    intro x m c he _
    simp only [Value.slice.injEq, Option.some.injEq] at he
    rw [← he.1]
    have := HLt.out
    show w2.heap.size ≠ w.heap.size
    omega⟩
  have HH3 := Kp.mk (HH.out.keep HB3.out)
  clear ho hg hr
  go_wp2_with fail
  refine (write_any w.heap.size [] (List.replicate n 0) _ w3 (HK.out.keep HBe.out) HPos.out HH3.out HX.out (by simp; have := HN.out; omega)).mono ?_
  rintro r w4 ⟨rfl, h4⟩
  have HB4 : Kp (Below w.heap.size w w4) := by
    obtain ⟨_, _, _, _, t⟩ := h4
    exact ⟨HBe.out.trans (t.below (Nat.le_refl _) HBe.out.size)⟩
  have HH4 : Kp (HashIs w4 w.heap.size (List.replicate n 0)) := ⟨h4.is⟩
  clear h4
  have CB : Kp (∀ w', HashIs w' w.heap.size (List.replicate n 0) → Calls Tryd.prog 21 #[.pointer (some ⟨w.heap.size, 0, none⟩)] w' fun r w'' => r = .returned (.int .i64 (blocks n : Nat)) ∧ w'' = w') := ⟨fun w' h => by
    have := hblocks_any w.heap.size _ w' h (by rw [List.length_replicate]; have := HN.out; omega)
    rw [List.length_replicate] at this
    exact this⟩
  have hbn : blocks n ≤ 100 := by have := HN.out; unfold blocks; split <;> omega
  have CA := Kp.mk fun w' => blocks_any (a : Int) w' (by omega)
  have CC := Kp.mk fun w' => cost_any x0 x1 w' (by omega) (by omega) (by omega) (by omega)
  have CR := Kp.mk fun w' => rcost_any x0 x1 w' (by omega) (by omega) (by omega) (by omega)
  have CS := Kp.mk fun w' => cost_any (a : Int) (b : Int) w' (by omega) (by omega) (by omega) (by omega)
  obtain ⟨c1, c2⟩ := blkI_bound (a : Int) (by omega) (by omega)
  generalize costI x0 x1 = P at *
  generalize costI a b = R at *
  generalize blkI a = y at *
  generalize blocks n = m at *
  by_cases hbig : 64 < (a : Int)
  · have HC2 : Kp (R = y + m + 2) := ⟨by rw [HCE.out, if_pos hbig]⟩
    go_wp2_with fail
    refine (CA.out _).mono ?_
    rintro r w5 ⟨rfl, rfl⟩
    go_wp2_with fail
    refine (awake5 _ (HK.out.keep HB4.out)).mono ?_
    rintro r w6 ⟨rfl, h6⟩
    have H6 : Kp (Below w.heap.size w w6) := ⟨HB4.out.trans (h6.mono HB4.out.size)⟩
    have HH6 := Kp.mk (HH4.out.keep h6)
    clear h6
    go_wp2_with fail
    refine (CC.out _).mono ?_
    rintro r w7 ⟨rfl, rfl⟩
    go_wp2_with fail
    refine (CR.out _).mono ?_
    rintro r w7 ⟨rfl, rfl⟩
    go_wp2_with fail
    refine (CS.out _).mono ?_
    rintro r w7 ⟨rfl, rfl⟩
    go_wp2_with fail
    refine (CB.out _ HH6.out).mono ?_
    rintro r w7 ⟨rfl, rfl⟩
    rw [HC2.out]
    go_wp2_with fail
    go_ret
    exact ⟨retb (by simp), H6.out⟩
  · have HC2 : Kp (R = m + 2) := ⟨by rw [HCE.out, if_neg hbig]; omega⟩
    go_wp2_with fail
    refine (awake5 _ (HK.out.keep HB4.out)).mono ?_
    rintro r w6 ⟨rfl, h6⟩
    have H6 : Kp (Below w.heap.size w w6) := ⟨HB4.out.trans (h6.mono HB4.out.size)⟩
    have HH6 := Kp.mk (HH4.out.keep h6)
    clear h6
    go_wp2_with fail
    refine (CC.out _).mono ?_
    rintro r w7 ⟨rfl, rfl⟩
    go_wp2_with fail
    refine (CR.out _).mono ?_
    rintro r w7 ⟨rfl, rfl⟩
    go_wp2_with fail
    refine (CS.out _).mono ?_
    rintro r w7 ⟨rfl, rfl⟩
    go_wp2_with fail
    refine (CB.out _ HH6.out).mono ?_
    rintro r w7 ⟨rfl, rfl⟩
    rw [HC2.out]
    go_wp2_with fail
    go_ret
    exact ⟨retb (by simp), H6.out⟩
end Go.Proofs.YtkdejiggblngkaaDoor
