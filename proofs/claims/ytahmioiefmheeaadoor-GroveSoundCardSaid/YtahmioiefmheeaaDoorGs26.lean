/-
  The law GroveSound, walked.
-/
import Derived.Test.YtahmioiefmheeaaDoorGs25
namespace Go.Proofs.YtahmioiefmheeaaDoor
open Go.RowKit

theorem HoldsS.rangeAt {w : World} {b off n cap i : Nat} {l : List Int} (h : HoldsS w (.slice (some ⟨b, off, Option.none⟩) n cap) n l) (hi : i < n) : w.rangeAt b (off + i * 16) (kv .u8 (segL l i)) := by
  obtain ⟨b', o', e, _, hr⟩ := h.range hi
  simp only [Option.some.injEq, Addr.mk.injEq, and_true] at e
  obtain ⟨rfl, rfl⟩ := e
  exact hr
theorem way_lt' {w : World} {a : Option Addr} {n c : Nat} {l : List Int} (h : HoldsS w (.slice a n c) n l) {x : Addr} (hx : a = some x) (h0 : 0 < n) : x.block < w.heap.size := by
  obtain ⟨a', c', e, _, _, _, h4⟩ := h
  obtain ⟨b, off, ha, hlt, _⟩ := h4 h0
  simp only [Value.slice.injEq] at e
  rw [← e.1, hx] at ha
  simp only [Option.some.injEq] at ha
  rw [ha]
  exact hlt
set_option maxRecDepth 100000 in
set_option maxHeartbeats 8000000 in
theorem groveSound_walk (x0 x1 : Int) (a2 : Option Addr) (len2 cap2 : Nat) (z2 : List Int) (x3 : Int) (x4 : List Int) (a5 : Option Addr) (len5 cap5 : Nat) (z5 : List Int) (x6 : Bool) (w : World) (_w0 : (Lit.int .i64 x0).wf = true) (w1 : (Lit.int .u32 x1).wf = true) (w2 : HoldsS w (.slice a2 len2 cap2) len2 z2 ∧ len2 ≤ cap2 ∧ cap2 ≤ maxLen) (_w3 : (Lit.int .i64 x3).wf = true) (l4 : x4.length = 16) (b4 : Bytes x4) (w5 : HoldsS w (.slice a5 len5 cap5) len5 z5 ∧ len5 ≤ cap5 ∧ cap5 ≤ maxLen) (hk : KonIs w) :
    Calls Tryd.prog 16 #[.int .i64 x0, .int .u32 x1, .slice a2 len2 cap2, .int .i64 x3, dgV x4, .slice a5 len5 cap5, .bool x6] w fun e w' => e = .returned (.bool true) ∧ Below w.heap.size w w' := by
  have HE := Kp.mk (u32_wf w1)
  have HX4 := Kp.mk l4
  have HB4 := Kp.mk b4
  have HK := Kp.mk hk
  have HR2 := Kp.mk w2.1
  have hc1 := w2.2.1
  have hc2 := w2.2.2
  have HR5 := Kp.mk w5.1
  have hc3 := w5.2.1
  have hc4 := w5.2.2
  unfold maxLen at hc2 hc4
  clear _w0 w1 _w3 l4 b4 hk w2 w5
  obtain ⟨A, hA⟩ : ∃ A, A = w.heap.size := ⟨_, rfl⟩
  have HA := Kp.mk hA
  have HA2 : Kp (∀ x, a2 = some x → 0 < len2 → x.block < A) := ⟨fun x hx h0 => by rw [hA]; exact way_lt' HR2.out hx h0⟩
  go_enter Tryd.func16, Tryd.ntmps16
  go_wp2_with fail
  rw [← hA]
  refine calls_world (fun W => Row W A 32 .u8 x4 ∧ HoldsS W (.slice a2 len2 cap2) len2 z2 ∧ HoldsS W (.slice a5 len5 cap5) len5 z5 ∧ Below A w W) ⟨Blk.newAt _ hA, HR2.out.keep (more (Below.refl _ _) _), HR5.out.keep (more (Below.refl _ _) _), by rw [hA]; exact more (Below.refl _ _) _⟩ ?_
  clear hA HR2 HR5
  rintro W1 ⟨g1, g2, g3, g4⟩
  have R1 := Kp.mk g1
  have Y1p := Kp.mk g3
  have B1 := Kp.mk g4
  refine (cut_any a2 len2 cap2 z2 W1 g2 hc1 hc2).mono ?_
  clear g1 g2 g3 g4
  rintro r w2 ⟨a, q, cap, L, k, rfl, HQ, hk, hh, HCA, hb⟩
  have R2 := Kp.mk (R1.out.keep hb)
  have Y2p := Kp.mk (Y1p.out.keep hb)
  have B2 : Kp (Below A w w2) := ⟨B1.out.trans (hb.mono (Nat.le_of_lt R1.out.lt))⟩
  have HLn : Kp (L.length = q * 16 ∧ Bytes L) := ⟨by obtain ⟨_, _, _, h1, _, h2, _⟩ := hh; exact ⟨h1, h2⟩⟩
  have Y2L := Kp.mk hh
  have hq16 : 1 ≤ q ∧ q ≤ 16 := by
    rw [HQ.out]
    rcases (show k = 0 ∨ k = 1 ∨ k = 2 ∨ k = 3 ∨ k = 4 by omega) with rfl | rfl | rfl | rfl | rfl <;> decide
  have hq0 : ¬ (q : Int) = 0 := by omega
  have HCB : Kp (∀ x, a = some x → x.block ≠ A) := ⟨fun x hx => by
    rcases HCA.out with ⟨e, h0⟩ | h
    · have := HA2.out x (by rw [← e]; exact hx) h0; omega
    · have := h x hx; have := R1.out.lt; omega⟩
  clear hh hb R1 Y1p B1 HCA HA2
  have hu := wrap_u64_nonneg x3
  obtain ⟨u, hu2⟩ : ∃ u : Nat, IntKind.u64.wrap x3 = u := ⟨(IntKind.u64.wrap x3).toNat, by omega⟩
  obtain ⟨j, hj⟩ : ∃ j, j = u % q := ⟨_, rfl⟩
  have hjq : j < q := by rw [hj]; exact Nat.mod_lt _ (by omega)
  have hmod : (IntKind.u64.wrap x3).tmod (q : Int) = (j : Int) := by rw [hu2, hj, Int.tmod_eq_emod_of_nonneg (by omega)]; rfl
  have hj15 : j ≤ 15 := by omega
  have HJ : Kp (j < 2 ^ k) := ⟨by rw [← HQ.out]; exact hjq⟩
  have HL2 : Kp (L.length = 2 ^ k * 16) := ⟨by rw [HLn.out.1, HQ.out]⟩
  clear hu hu2 hj
  go_wp2_with fail
  clear hmod
  refine (rpathG_any x0 x1 a q cap L k j w2 HE.out HQ.out (by omega) HJ.out Y2L.out).mono ?_
  rintro r w3 ⟨v15, rfl, h1, h2, hb⟩
  obtain ⟨a15, c15, rfl, -⟩ := id h1
  have R4 := Kp.mk (R2.out.keep hb)
  have YL4' := Kp.mk (Y2L.out.keep hb)
  have Y4p := Kp.mk (Y2p.out.keep hb)
  have B4 : Kp (Below A w w3) := ⟨B2.out.trans (hb.mono (Nat.le_of_lt R2.out.lt))⟩
  have HFv : Kp (∀ x, a15 = some x → x.block ≠ A) := ⟨fun x hx => by have h3 := (h2 x k c15 (by rw [hx])).1; have := R2.out.lt; omega⟩
  have Yv4' := Kp.mk h1
  clear h1 h2 hb R2 Y2L Y2p B2
  obtain ⟨b, off, rfl, -, -⟩ := YL4'.out.range hjq
  have hbA : b ≠ A := HCB.out _ rfl
  have YL4 : Kp (HoldsS w3 (.slice (some ⟨b, off, none⟩) q cap) q L) := YL4'
  clear YL4' HCB
  obtain ⟨Pw, hPw⟩ : ∃ P, P = pathG x0 x1 L k j := ⟨_, rfl⟩
  rw [← hPw] at Yv4'
  have Yv4 : Kp (HoldsS w3 (.slice a15 k c15) k Pw) := Yv4'
  have HPw := Kp.mk hPw
  obtain ⟨s, hs⟩ : ∃ s, s = segL L j := ⟨_, rfl⟩
  have HSe := Kp.mk hs
  have HSl : Kp (s.length = 16) := ⟨by rw [hs]; exact segL_len HLn.out.1 hjq⟩
  have HSb : Kp (Bytes s) := ⟨by rw [hs]; exact HLn.out.2.seg j⟩
  obtain ⟨root, hr⟩ : ∃ r, r = nodeG x0 x1 L k 0 := ⟨_, rfl⟩
  have HRl : Kp (root.length = 16 ∧ Bytes root) := ⟨by rw [hr]; exact ⟨nodeG_len HLn.out.1 k 0 (by rw [HQ.out]; omega), nodeG_bytes HLn.out.2 k 0⟩⟩
  have HRt : Kp (nodeG x0 x1 L k 0 = root) := ⟨hr.symm⟩
  clear hPw hs hr Yv4'
  cases x6 with
  | true =>
    have HRs : Kp (w3.rangeAt b (off + j * 16) (kv .u8 s)) := ⟨by rw [HSe.out]; exact YL4.out.rangeAt hjq⟩
    obtain ⟨W4, hW4⟩ : ∃ W, W = w3.setRow A (kv .u8 s).toArray := ⟨_, rfl⟩
    have R5 : Kp (Row W4 A 32 .u8 s) := ⟨by rw [hW4]; exact R4.out.setRow s⟩
    have YL5 : Kp (HoldsS W4 (.slice (some ⟨b, off, none⟩) q cap) q L) := ⟨by rw [hW4]; exact YL4.out.off2 (fun _ => slice_off fun x hx => by simp at hx; rw [← hx]; exact hbA) _⟩
    have Yv5 : Kp (HoldsS W4 (.slice a15 k c15) k Pw) := ⟨by rw [hW4]; exact Yv4.out.off2 (fun _ => slice_off fun x hx => HFv.out x hx) _⟩
    have B5 : Kp (Below A w W4) := ⟨by rw [hW4]; exact Below.row B4.out (Nat.le_refl _) _⟩
    have hk20 : ¬ (20 : Int) < (k : Int) := by omega
    go_wp2_with first
      | (refine wpList_load_mid rfl 32 (.tmp 38) rfl b (off + j * 16) rfl (kv .u8 s) _ HRs.out Tryd.underlying32 rfl (cellsL32 HSl.out) ?_)
      | (refine wpList_store_row rfl 32 (.tmp 11) (.tmp 39) rfl A (kv .u8 s).toArray rfl rfl 32 _ R4.out (cells49 HSl.out) (by rw [kv_size, kv_size, HX4.out, HSl.out]) (kv_all _ _) ?_; refine wpl_world (· = W4) hW4.symm ?_; clear hW4; intro W0 e0; rw [e0]; clear e0)
    clear R4 YL4 Yv4 B4 HRs
    have R4 := R5
    have YL4 := YL5
    have Yv4 := Yv5
    have Yp4 := Yv5
    have B4 := B5
    clear R5 YL5 Yv5 B5
    have HNs : Kp (k ≤ 1000000) := ⟨by omega⟩
    have HLb : Kp ((Pw).length = k * 16 ∧ Bytes Pw) := ⟨by obtain ⟨_, _, _, k1, _, k2, _⟩ := Yp4.out; exact ⟨k1, k2⟩⟩
    obtain ⟨c, hc⟩ : ∃ c, c = checkB x0 x1 k root j s Pw k := ⟨_, rfl⟩
    have HCc := Kp.mk hc
    clear hc
    refine wp_region_pred (fun w' => Row w' A 32 .u8 s ∧ HoldsS w' (.slice (some ⟨b, off, none⟩) q cap) q L ∧ HoldsS w' (.slice a15 k c15) k Pw ∧ HoldsS w' (.slice a15 k c15) k Pw ∧ Below A w w') [0, 1, 2, 3, 4, 5, 6, 7, 8, 9, 10, 11, 12, 13, 14] []
      (fun ι w' v => match ι with
        | 0 | 5 => v = .int .i64 x0
        | 1 | 6 => v = .int .u32 x1
        | 2 | 7 => v = .slice (some ⟨b, off, none⟩) q cap
        | 3 => v = .int .i64 q
        | 4 => v = .int .i64 k
        | 8 => v = dgV root
        | 9 => v = .int .i64 j
        | 10 => v = dgV s
        | 11 => v = .slice a15 k c15
        | 13 => v = .bool c
        | 14 => v = .bool (!c)
        | 12 => HoldsS w' v k Pw
        | _ => v = .bool true)
      [[], [], [], [(2, some 48)], [(3, some 49)], [], [], [], [(4, some 50), (5, some 51), (6, some 52), (7, some 53)], [], [], [], [(8, some 54), (11, some 57)], [(0, some 46), (1, some 47), (4, some 50), (8, some 54), (9, some 55), (10, some 56), (12, some 58)], [(13, some 59)]]
      [(0, some 46), (1, some 47), (2, some 48), (3, some 49), (4, some 50), (5, some 51), (6, some 52), (7, some 53), (8, some 54), (9, some 55), (10, some 56), (11, some 57), (12, some 58), (13, some 59), (14, some 60)]
      (by kernel_rfl) (by kernel_rfl) (by kernel_rfl) (by kernel_rfl) (by kernel_rfl) (by kernel_rfl) (by decide) (by decide) (fun w1 w2 h hb => ⟨h.1.keep hb, h.2.1.keep hb, h.2.2.1.keep hb, h.2.2.2.1.keep hb, h.2.2.2.2.trans (hb.mono (Nat.le_of_lt h.1.lt))⟩) ?_ ⟨R4.out.drew, YL4.out.drew, Yp4.out.drew, Yv4.out.drew, B4.out.drew⟩ ?_ ?_
    · intro ι w1 w2 v h hb
      by_cases h12 : ι = 12
      · subst h12
        exact HoldsS.keep h hb
      match ι, h12, h with
      | 0, _, h => exact h
      | 1, _, h => exact h
      | 2, _, h => exact h
      | 3, _, h => exact h
      | 4, _, h => exact h
      | 5, _, h => exact h
      | 6, _, h => exact h
      | 7, _, h => exact h
      | 8, _, h => exact h
      | 9, _, h => exact h
      | 10, _, h => exact h
      | 11, _, h => exact h
      | 12, g, h => exact absurd rfl g
      | 13, _, h => exact h
      | 14, _, h => exact h
      | _ + 15, _, h => exact h
    · refine ⟨fun γ wx hS h => ?_, fun γ wx hS h => ?_, fun γ wx hS h => ?_, fun γ wx hS h => ?_, fun γ wx hS h => ?_, fun γ wx hS h => ?_, fun γ wx hS h => ?_, fun γ wx hS h => ?_, fun γ wx hS h => ?_, fun γ wx hS h => ?_, fun γ wx hS h => ?_, fun γ wx hS h => ?_, fun γ wx hS h => ?_, fun γ wx hS h => ?_, fun γ wx hS h => ?_, trivial⟩
      · refine ⟨_, rfl, Or.inl ⟨rfl, predRun_value (v := .int .i64 x0) (by simp only [putE]; first | rfl | (go_simp; done) | (go_simp; with_reducible rfl) | (go_simp; rfl)) rfl⟩⟩
      · refine ⟨_, rfl, Or.inl ⟨rfl, predRun_value (v := .int .u32 x1) (by simp only [putE]; first | rfl | (go_simp; done) | (go_simp; with_reducible rfl) | (go_simp; rfl)) rfl⟩⟩
      · refine ⟨_, rfl, Or.inl ⟨rfl, predRun_value (v := .slice (some ⟨b, off, none⟩) q cap) (by simp only [putE]; first | rfl | (go_simp; done) | (go_simp; with_reducible rfl) | (go_simp; rfl)) rfl⟩⟩
      · have h2 := h
        have e2 : γ 2 = .slice (some ⟨b, off, none⟩) q cap := h2
        refine ⟨_, rfl, Or.inl ⟨rfl, predRun_value (v := .int .i64 q) (by simp only [putE, e2]; first | rfl | (go_simp; done) | (go_simp; with_reducible rfl) | (go_simp; rfl)) rfl⟩⟩
      · have h3 := h
        have e3 : γ 3 = .int .i64 q := h3
        refine ⟨_, rfl, Or.inl ⟨rfl, predRun_call (f := 61) (args := #[.int .i64 q]) (by simp only [putE, e3]; go_simp) ?_⟩⟩
        exact (rheight_pow q k wx HQ.out (by omega)).mono fun e w2 ⟨h1, h2⟩ => ⟨_, h1, rfl, h2 ▸ Below.refl _ _⟩
      · refine ⟨_, rfl, Or.inl ⟨rfl, predRun_value (v := .int .i64 x0) (by simp only [putE]; first | rfl | (go_simp; done) | (go_simp; with_reducible rfl) | (go_simp; rfl)) rfl⟩⟩
      · refine ⟨_, rfl, Or.inl ⟨rfl, predRun_value (v := .int .u32 x1) (by simp only [putE]; first | rfl | (go_simp; done) | (go_simp; with_reducible rfl) | (go_simp; rfl)) rfl⟩⟩
      · refine ⟨_, rfl, Or.inl ⟨rfl, predRun_value (v := .slice (some ⟨b, off, none⟩) q cap) (by simp only [putE]; first | rfl | (go_simp; done) | (go_simp; with_reducible rfl) | (go_simp; rfl)) rfl⟩⟩
      · obtain ⟨h4, h5, h6, h7⟩ := h
        have e4 : γ 4 = .int .i64 k := h4
        have e5 : γ 5 = .int .i64 x0 := h5
        have e6 : γ 6 = .int .u32 x1 := h6
        have e7 : γ 7 = .slice (some ⟨b, off, none⟩) q cap := h7
        refine ⟨_, rfl, Or.inl ⟨rfl, predRun_call (f := 64) (args := #[.int .i64 x0, .int .u32 x1, .slice (some ⟨b, off, none⟩) q cap]) (by simp only [putE, e4, e5, e6, e7]; go_simp) ?_⟩⟩
        exact (rrootG_any x0 x1 _ q cap L k wx HE.out HQ.out (by omega) hS.2.1).mono fun e w2 ⟨h1, h2⟩ => ⟨_, h1, congrArg dgV HRt.out, h2⟩
      · refine ⟨_, rfl, Or.inl ⟨rfl, predRun_value (v := .int .i64 j) (by simp only [putE]; first | rfl | (go_simp; done) | (go_simp; with_reducible rfl) | (go_simp; rfl)) rfl⟩⟩
      · refine ⟨_, rfl, Or.inl ⟨rfl, predRun_value (exec_load_blk 32 (.tmp 11) rfl (A) rfl 32 _ (0, 0) _ hS.1 Tryd.underlying32 rfl (cells49 HSl.out)) rfl⟩⟩
      · refine ⟨_, rfl, Or.inl ⟨rfl, predRun_value (v := .slice a15 k c15) (by simp only [putE]; first | rfl | (go_simp; done) | (go_simp; with_reducible rfl) | (go_simp; rfl)) rfl⟩⟩
      · obtain ⟨h8, h11⟩ := h
        have e8 : γ 8 = dgV root := h8
        have e11 : γ 11 = .slice a15 k c15 := h11
        refine ⟨_, rfl, Or.inl ⟨rfl, predRun_call (f := 47) (args := #[.slice a15 k c15]) (by simp only [putE, e8, e11]; go_simp) ?_⟩⟩
        refine (toS_any _ k Pw wx hS.2.2.1 HNs.out).mono ?_
        rintro e w2 ⟨v', h1, h2, h3⟩
        exact ⟨v', h1, HoldsS.ofRow HLb.out.2 (by have := HNs.out; unfold maxLen; omega) HLb.out.1 h2, h3⟩
      · obtain ⟨h0, h1, h4, h8, h9, h10, h12⟩ := h
        have e0 : γ 0 = .int .i64 x0 := h0
        have e1 : γ 1 = .int .u32 x1 := h1
        have e4 : γ 4 = .int .i64 k := h4
        have e8 : γ 8 = dgV root := h8
        have e9 : γ 9 = .int .i64 j := h9
        have e10 : γ 10 = dgV s := h10
        have p12 : HoldsS wx (γ 12) k Pw := h12
        obtain ⟨a9, c9, h9', -⟩ := id p12
        refine ⟨_, rfl, Or.inl ⟨rfl, predRun_call (f := 72) (args := #[.int .i64 x0, .int .u32 x1, .int .i64 k, dgV root, .int .i64 j, dgV s, .slice a9 k c9]) (by simp only [putE, e0, e1, e4, e8, e9, e10, h9']; go_simp) ?_⟩⟩
        rw [h9'] at p12
        exact (check_any x0 x1 k j root s a9 k c9 Pw wx (HK.out.keep (by rw [← HA.out]; exact hS.2.2.2.2)) HE.out HRl.out.1 HRl.out.2 HSl.out HSb.out p12).mono fun e w2 ⟨h1, h2⟩ => ⟨_, h1, by show Value.bool _ = Value.bool c; rw [HCc.out], h2⟩
      · have h13 := h
        have e13 : γ 13 = .bool c := h13
        refine ⟨_, rfl, Or.inl ⟨rfl, predRun_value (v := .bool (!c)) (by simp only [putE, e13]; clear HCc; cases c <;> first | rfl | (go_simp; done) | (go_simp; with_reducible rfl) | (go_simp; rfl)) rfl⟩⟩
    · intro γ w9 hS h
      have e14 : γ 14 = .bool (!c) := h.2.2.2.2.2.2.2.2.2.2.2.2.2.2
      have R8 := Kp.mk hS.1
      have YL8 := Kp.mk hS.2.1
      have Yp8 := Kp.mk hS.2.2.1
      have Yv8 := Kp.mk hS.2.2.2.1
      have B8 := Kp.mk hS.2.2.2.2
      simp only [putE, Act.put, List.setIfInBounds_toArray, List.set_cons_zero, List.set_cons_succ]
      rw [e14]
      clear h hS e14
      clear R4 YL4 Yp4 Yv4 B4
      refine wpOps_done ?_
      have hct : c = true := by rw [HCc.out, ← HRt.out, HPw.out, HSe.out]; exact checkB_own HL2.out (by omega) HJ.out
      rw [hct]
      clear hct
      go_wp2_with fail
      refine wp_region_pred (fun w' => Row w' A 32 .u8 s ∧ HoldsS w' (.slice (some ⟨b, off, none⟩) q cap) q L ∧ HoldsS w' (.slice a15 k c15) k Pw ∧ HoldsS w' (.slice a15 k c15) k Pw ∧ Below A w w') [0, 1, 2, 3, 4, 5, 6, 7, 8, 9, 10] []
        (fun ι w' v => match ι with
          | 0 | 4 => v = dgV s
          | 1 => v = .slice (some ⟨b, off, none⟩) q cap
          | 2 => v = .int .i64 j
          | 3 => v = .pointer (some ⟨b, off + j * 16, none⟩)
          | 7 | 8 => v = .slice a15 k c15
          | _ => v = .bool true)
        [[], [], [], [(1, some 67), (2, some 68)], [(3, some 69)], [(0, some 66), (4, some 70)], [(5, some 71)], [(6, some 72)], [(6, some 72)], [(6, some 72), (7, some 73), (8, some 74)], [(6, some 72), (9, some 75)]]
        [(0, some 66), (1, some 67), (2, some 68), (3, some 69), (4, some 70), (5, some 71), (6, some 72), (7, some 73), (8, some 74), (9, some 75), (10, some 76)]
        (by kernel_rfl) (by kernel_rfl) (by kernel_rfl) (by kernel_rfl) (by kernel_rfl) (by kernel_rfl) (by decide) (by decide) (fun w1 w2 h hb => ⟨h.1.keep hb, h.2.1.keep hb, h.2.2.1.keep hb, h.2.2.2.1.keep hb, h.2.2.2.2.trans (hb.mono (Nat.le_of_lt h.1.lt))⟩) ?_ ⟨R8.out.drew, YL8.out.drew, Yp8.out.drew, Yv8.out.drew, B8.out.drew⟩ ?_ ?_
      · intro ι w1 w2 v h hb
        match ι, h with
        | 0, h => exact h
        | 1, h => exact h
        | 2, h => exact h
        | 3, h => exact h
        | 4, h => exact h
        | 5, h => exact h
        | 6, h => exact h
        | 7, h => exact h
        | 8, h => exact h
        | 9, h => exact h
        | 10, h => exact h
        | _ + 11, h => exact h
      · refine ⟨fun γ wx hS h => ?_, fun γ wx hS h => ?_, fun γ wx hS h => ?_, fun γ wx hS h => ?_, fun γ wx hS h => ?_, fun γ wx hS h => ?_, fun γ wx hS h => ?_, fun γ wx hS h => ?_, fun γ wx hS h => ?_, fun γ wx hS h => ?_, fun γ wx hS h => ?_, trivial⟩
        · refine ⟨_, rfl, Or.inl ⟨rfl, predRun_value (exec_load_blk 32 (.tmp 11) rfl (A) rfl 32 _ (0, 0) _ hS.1 Tryd.underlying32 rfl (cells49 HSl.out)) rfl⟩⟩
        · refine ⟨_, rfl, Or.inl ⟨rfl, predRun_value (v := .slice (some ⟨b, off, none⟩) q cap) (by simp only [putE]; first | rfl | (go_simp; done) | (go_simp; with_reducible rfl) | (go_simp; rfl)) rfl⟩⟩
        · refine ⟨_, rfl, Or.inl ⟨rfl, predRun_value (v := .int .i64 j) (by simp only [putE]; first | rfl | (go_simp; done) | (go_simp; with_reducible rfl) | (go_simp; rfl)) rfl⟩⟩
        · obtain ⟨h1, h2⟩ := h
          have e1 : γ 1 = .slice (some ⟨b, off, none⟩) q cap := h1
          have e2 : γ 2 = .int .i64 j := h2
          refine ⟨_, rfl, Or.inl ⟨rfl, predRun_value (exec_idx65 (x := .tmp 67) (y := .tmp 68) (B := b) (o := off) (n := q) (cap := cap) (j := j) rfl (by simp only [putE, e1, e2, Act.put, List.setIfInBounds_toArray, List.set_cons_zero, List.set_cons_succ]; rfl) (by simp only [putE, e1, e2, Act.put, List.setIfInBounds_toArray, List.set_cons_zero, List.set_cons_succ]; rfl) rfl hjq) rfl⟩⟩
        · have h3 := h
          have e3 : γ 3 = .pointer (some ⟨b, off + j * 16, none⟩) := h3
          refine ⟨_, rfl, Or.inl ⟨rfl, predRun_value (exec_load_midS (b := b) (off := off + j * 16) (x := .tmp 69) (cs := kv .u8 s) rfl (by simp only [putE, e3, Act.put, List.setIfInBounds_toArray, List.set_cons_zero, List.set_cons_succ]; rfl) (by rw [HSe.out]; exact hS.2.1.rangeAt hjq) Tryd.underlying32 rfl (cellsL32 HSl.out)) rfl⟩⟩
        · obtain ⟨h0, h4⟩ := h
          have e0 : γ 0 = dgV s := h0
          have e4 : γ 4 = dgV s := h4
          refine ⟨_, rfl, Or.inl ⟨rfl, predRun_value (v := .bool true) (by simp only [putE, e0, e4]; have hq : ∀ w, (binOp .eql 32 (dgV s) (dgV s)).run Tryd.prog w = .ok (.bool true) w := fun w => (by rw [eq32 HSb.out HSb.out HSl.out HSl.out w, decide_eq_true rfl]); have hg := eqg32; first | (go_simp; done) | (go_simp; with_reducible rfl)) rfl⟩⟩
        · have h5 := h
          have e5 : γ 5 = .bool true := h5
          refine ⟨_, rfl, Or.inl ⟨rfl, predRun_value (v := .bool true) (by simp only [putE, e5]; first | rfl | (go_simp; done) | (go_simp; with_reducible rfl) | (go_simp; rfl)) rfl⟩⟩
        · have h6 := h
          have e6 : γ 6 = .bool true := h6
          refine ⟨_, rfl, Or.inl ⟨(by simp only [putE, e6]; first | kernel_rfl | rfl), predRun_value (v := .slice a15 k c15) (by simp only [putE, e6]; first | rfl | (go_simp; done) | (go_simp; with_reducible rfl) | (go_simp; rfl)) rfl⟩⟩
        · have h6 := h
          have e6 : γ 6 = .bool true := h6
          refine ⟨_, rfl, Or.inl ⟨(by simp only [putE, e6]; first | kernel_rfl | rfl), predRun_value (v := .slice a15 k c15) (by simp only [putE, e6]; first | rfl | (go_simp; done) | (go_simp; with_reducible rfl) | (go_simp; rfl)) rfl⟩⟩
        · obtain ⟨h6, h7, h8⟩ := h
          have e6 : γ 6 = .bool true := h6
          have e7 : γ 7 = .slice a15 k c15 := h7
          have e8 : γ 8 = .slice a15 k c15 := h8
          refine ⟨_, rfl, Or.inl ⟨(by simp only [putE, e6, e7, e8]; first | kernel_rfl | rfl), predRun_call (f := 49) (args := #[.slice a15 k c15, .slice a15 k c15]) (by simp only [putE, e6, e7, e8]; go_simp) ?_⟩⟩
          exact (sames_any (.slice a15 k c15) (.slice a15 k c15) k k Pw Pw wx hS.2.2.1 hS.2.2.2.1 HNs.out (by omega)).mono fun e w2 ⟨h1, h2⟩ => ⟨_, h1, by simp, h2⟩
        · obtain ⟨h6, h9⟩ := h
          have e6 : γ 6 = .bool true := h6
          have e9 : γ 9 = .bool true := h9
          refine ⟨_, rfl, Or.inl ⟨rfl, predRun_value (v := .bool true) (by simp only [putE, e6, e9]; first | rfl | (go_simp; done) | (go_simp; with_reducible rfl) | (go_simp; rfl)) rfl⟩⟩
      · intro γ w9 hS h
        have e10 : γ 10 = .bool true := h.2.2.2.2.2.2.2.2.2.2
        have R10 := Kp.mk hS.1
        have YL10 := Kp.mk hS.2.1
        have Yp10 := Kp.mk hS.2.2.1
        have Yv10 := Kp.mk hS.2.2.2.1
        have B10 := Kp.mk hS.2.2.2.2
        simp only [putE, Act.put, List.setIfInBounds_toArray, List.set_cons_zero, List.set_cons_succ]
        rw [e10]
        clear h hS e10
        clear R8 YL8 Yp8 Yv8 B8
        refine wpOps_done ?_
        go_wp2_with fail
        refine (awake7 w9).mono ?_
        rintro r w8 ⟨rfl, hb⟩
        have BB : Kp (Below A w w8) := ⟨B10.out.trans (hb.mono (Nat.le_of_lt R10.out.lt))⟩
        clear hb
        go_wp2_with fail
        go_ret
        exact ⟨rfl, by rw [← HA.out]; exact BB.out⟩
  | false =>
    by_cases hcut : 20 < len5
    · have hcut2 : (20 : Int) < (len5 : Int) := by omega
      have Yp4 : Kp (HoldsS w3 (.slice a5 20 cap5) 20 (z5.take (20 * 16))) := ⟨Y4p.out.front (by omega)⟩
      clear Y4p
      go_wp2_with fail
      have HNs : Kp (20 ≤ 1000000) := ⟨by omega⟩
      have HLb : Kp (((z5.take (20 * 16))).length = 20 * 16 ∧ Bytes (z5.take (20 * 16))) := ⟨by obtain ⟨_, _, _, k1, _, k2, _⟩ := Yp4.out; exact ⟨k1, k2⟩⟩
      obtain ⟨c, hc⟩ : ∃ c, c = checkB x0 x1 k root j x4 (z5.take (20 * 16)) 20 := ⟨_, rfl⟩
      have HCc := Kp.mk hc
      clear hc
      refine wp_region_pred (fun w' => Row w' A 32 .u8 x4 ∧ HoldsS w' (.slice (some ⟨b, off, none⟩) q cap) q L ∧ HoldsS w' (.slice a5 20 cap5) 20 (z5.take (20 * 16)) ∧ HoldsS w' (.slice a15 k c15) k Pw ∧ Below A w w') [0, 1, 2, 3, 4, 5, 6, 7, 8, 9, 10, 11, 12, 13, 14] []
        (fun ι w' v => match ι with
          | 0 | 5 => v = .int .i64 x0
          | 1 | 6 => v = .int .u32 x1
          | 2 | 7 => v = .slice (some ⟨b, off, none⟩) q cap
          | 3 => v = .int .i64 q
          | 4 => v = .int .i64 k
          | 8 => v = dgV root
          | 9 => v = .int .i64 j
          | 10 => v = dgV x4
          | 11 => v = .slice a5 20 cap5
          | 13 => v = .bool c
          | 14 => v = .bool (!c)
          | 12 => HoldsS w' v 20 (z5.take (20 * 16))
          | _ => v = .bool true)
        [[], [], [], [(2, some 48)], [(3, some 49)], [], [], [], [(4, some 50), (5, some 51), (6, some 52), (7, some 53)], [], [], [], [(8, some 54), (11, some 57)], [(0, some 46), (1, some 47), (4, some 50), (8, some 54), (9, some 55), (10, some 56), (12, some 58)], [(13, some 59)]]
        [(0, some 46), (1, some 47), (2, some 48), (3, some 49), (4, some 50), (5, some 51), (6, some 52), (7, some 53), (8, some 54), (9, some 55), (10, some 56), (11, some 57), (12, some 58), (13, some 59), (14, some 60)]
        (by kernel_rfl) (by kernel_rfl) (by kernel_rfl) (by kernel_rfl) (by kernel_rfl) (by kernel_rfl) (by decide) (by decide) (fun w1 w2 h hb => ⟨h.1.keep hb, h.2.1.keep hb, h.2.2.1.keep hb, h.2.2.2.1.keep hb, h.2.2.2.2.trans (hb.mono (Nat.le_of_lt h.1.lt))⟩) ?_ ⟨R4.out.drew, YL4.out.drew, Yp4.out.drew, Yv4.out.drew, B4.out.drew⟩ ?_ ?_
      · intro ι w1 w2 v h hb
        by_cases h12 : ι = 12
        · subst h12
          exact HoldsS.keep h hb
        match ι, h12, h with
        | 0, _, h => exact h
        | 1, _, h => exact h
        | 2, _, h => exact h
        | 3, _, h => exact h
        | 4, _, h => exact h
        | 5, _, h => exact h
        | 6, _, h => exact h
        | 7, _, h => exact h
        | 8, _, h => exact h
        | 9, _, h => exact h
        | 10, _, h => exact h
        | 11, _, h => exact h
        | 12, g, h => exact absurd rfl g
        | 13, _, h => exact h
        | 14, _, h => exact h
        | _ + 15, _, h => exact h
      · refine ⟨fun γ wx hS h => ?_, fun γ wx hS h => ?_, fun γ wx hS h => ?_, fun γ wx hS h => ?_, fun γ wx hS h => ?_, fun γ wx hS h => ?_, fun γ wx hS h => ?_, fun γ wx hS h => ?_, fun γ wx hS h => ?_, fun γ wx hS h => ?_, fun γ wx hS h => ?_, fun γ wx hS h => ?_, fun γ wx hS h => ?_, fun γ wx hS h => ?_, fun γ wx hS h => ?_, trivial⟩
        · refine ⟨_, rfl, Or.inl ⟨rfl, predRun_value (v := .int .i64 x0) (by simp only [putE]; first | rfl | (go_simp; done) | (go_simp; with_reducible rfl) | (go_simp; rfl)) rfl⟩⟩
        · refine ⟨_, rfl, Or.inl ⟨rfl, predRun_value (v := .int .u32 x1) (by simp only [putE]; first | rfl | (go_simp; done) | (go_simp; with_reducible rfl) | (go_simp; rfl)) rfl⟩⟩
        · refine ⟨_, rfl, Or.inl ⟨rfl, predRun_value (v := .slice (some ⟨b, off, none⟩) q cap) (by simp only [putE]; first | rfl | (go_simp; done) | (go_simp; with_reducible rfl) | (go_simp; rfl)) rfl⟩⟩
        · have h2 := h
          have e2 : γ 2 = .slice (some ⟨b, off, none⟩) q cap := h2
          refine ⟨_, rfl, Or.inl ⟨rfl, predRun_value (v := .int .i64 q) (by simp only [putE, e2]; first | rfl | (go_simp; done) | (go_simp; with_reducible rfl) | (go_simp; rfl)) rfl⟩⟩
        · have h3 := h
          have e3 : γ 3 = .int .i64 q := h3
          refine ⟨_, rfl, Or.inl ⟨rfl, predRun_call (f := 61) (args := #[.int .i64 q]) (by simp only [putE, e3]; go_simp) ?_⟩⟩
          exact (rheight_pow q k wx HQ.out (by omega)).mono fun e w2 ⟨h1, h2⟩ => ⟨_, h1, rfl, h2 ▸ Below.refl _ _⟩
        · refine ⟨_, rfl, Or.inl ⟨rfl, predRun_value (v := .int .i64 x0) (by simp only [putE]; first | rfl | (go_simp; done) | (go_simp; with_reducible rfl) | (go_simp; rfl)) rfl⟩⟩
        · refine ⟨_, rfl, Or.inl ⟨rfl, predRun_value (v := .int .u32 x1) (by simp only [putE]; first | rfl | (go_simp; done) | (go_simp; with_reducible rfl) | (go_simp; rfl)) rfl⟩⟩
        · refine ⟨_, rfl, Or.inl ⟨rfl, predRun_value (v := .slice (some ⟨b, off, none⟩) q cap) (by simp only [putE]; first | rfl | (go_simp; done) | (go_simp; with_reducible rfl) | (go_simp; rfl)) rfl⟩⟩
        · obtain ⟨h4, h5, h6, h7⟩ := h
          have e4 : γ 4 = .int .i64 k := h4
          have e5 : γ 5 = .int .i64 x0 := h5
          have e6 : γ 6 = .int .u32 x1 := h6
          have e7 : γ 7 = .slice (some ⟨b, off, none⟩) q cap := h7
          refine ⟨_, rfl, Or.inl ⟨rfl, predRun_call (f := 64) (args := #[.int .i64 x0, .int .u32 x1, .slice (some ⟨b, off, none⟩) q cap]) (by simp only [putE, e4, e5, e6, e7]; go_simp) ?_⟩⟩
          exact (rrootG_any x0 x1 _ q cap L k wx HE.out HQ.out (by omega) hS.2.1).mono fun e w2 ⟨h1, h2⟩ => ⟨_, h1, congrArg dgV HRt.out, h2⟩
        · refine ⟨_, rfl, Or.inl ⟨rfl, predRun_value (v := .int .i64 j) (by simp only [putE]; first | rfl | (go_simp; done) | (go_simp; with_reducible rfl) | (go_simp; rfl)) rfl⟩⟩
        · refine ⟨_, rfl, Or.inl ⟨rfl, predRun_value (exec_load_blk 32 (.tmp 11) rfl (A) rfl 32 _ (0, 0) _ hS.1 Tryd.underlying32 rfl (cells49 HX4.out)) rfl⟩⟩
        · refine ⟨_, rfl, Or.inl ⟨rfl, predRun_value (v := .slice a5 20 cap5) (by simp only [putE]; first | rfl | (go_simp; done) | (go_simp; with_reducible rfl) | (go_simp; rfl)) rfl⟩⟩
        · obtain ⟨h8, h11⟩ := h
          have e8 : γ 8 = dgV root := h8
          have e11 : γ 11 = .slice a5 20 cap5 := h11
          refine ⟨_, rfl, Or.inl ⟨rfl, predRun_call (f := 47) (args := #[.slice a5 20 cap5]) (by simp only [putE, e8, e11]; go_simp) ?_⟩⟩
          refine (toS_any _ 20 (z5.take (20 * 16)) wx hS.2.2.1 HNs.out).mono ?_
          rintro e w2 ⟨v', h1, h2, h3⟩
          exact ⟨v', h1, HoldsS.ofRow HLb.out.2 (by have := HNs.out; unfold maxLen; omega) HLb.out.1 h2, h3⟩
        · obtain ⟨h0, h1, h4, h8, h9, h10, h12⟩ := h
          have e0 : γ 0 = .int .i64 x0 := h0
          have e1 : γ 1 = .int .u32 x1 := h1
          have e4 : γ 4 = .int .i64 k := h4
          have e8 : γ 8 = dgV root := h8
          have e9 : γ 9 = .int .i64 j := h9
          have e10 : γ 10 = dgV x4 := h10
          have p12 : HoldsS wx (γ 12) 20 (z5.take (20 * 16)) := h12
          obtain ⟨a9, c9, h9', -⟩ := id p12
          refine ⟨_, rfl, Or.inl ⟨rfl, predRun_call (f := 72) (args := #[.int .i64 x0, .int .u32 x1, .int .i64 k, dgV root, .int .i64 j, dgV x4, .slice a9 20 c9]) (by simp only [putE, e0, e1, e4, e8, e9, e10, h9']; go_simp) ?_⟩⟩
          rw [h9'] at p12
          exact (check_any x0 x1 k j root x4 a9 20 c9 (z5.take (20 * 16)) wx (HK.out.keep (by rw [← HA.out]; exact hS.2.2.2.2)) HE.out HRl.out.1 HRl.out.2 HX4.out HB4.out p12).mono fun e w2 ⟨h1, h2⟩ => ⟨_, h1, by show Value.bool _ = Value.bool c; rw [HCc.out], h2⟩
        · have h13 := h
          have e13 : γ 13 = .bool c := h13
          refine ⟨_, rfl, Or.inl ⟨rfl, predRun_value (v := .bool (!c)) (by simp only [putE, e13]; clear HCc; cases c <;> first | rfl | (go_simp; done) | (go_simp; with_reducible rfl) | (go_simp; rfl)) rfl⟩⟩
      · intro γ w9 hS h
        have e14 : γ 14 = .bool (!c) := h.2.2.2.2.2.2.2.2.2.2.2.2.2.2
        have R8 := Kp.mk hS.1
        have YL8 := Kp.mk hS.2.1
        have Yp8 := Kp.mk hS.2.2.1
        have Yv8 := Kp.mk hS.2.2.2.1
        have B8 := Kp.mk hS.2.2.2.2
        simp only [putE, Act.put, List.setIfInBounds_toArray, List.set_cons_zero, List.set_cons_succ]
        rw [e14]
        clear h hS e14
        clear R4 YL4 Yp4 Yv4 B4
        refine wpOps_done ?_
        cases hc : c with
        | false =>
          go_wp2_with fail
          refine (awake7 w9).mono ?_
          rintro r w8 ⟨rfl, hb⟩
          have BB : Kp (Below A w w8) := ⟨B8.out.trans (hb.mono (Nat.le_of_lt R8.out.lt))⟩
          clear hb
          go_wp2_with fail
          go_ret
          exact ⟨rfl, by rw [← HA.out]; exact BB.out⟩
        | true =>
          have HCt : Kp (checkB x0 x1 k (nodeG x0 x1 L k 0) j x4 (z5.take (20 * 16)) 20 = true) := ⟨by rw [HRt.out, ← HCc.out]; exact hc⟩
          clear hc
          go_wp2_with fail
          by_cases hxs : x4 = s
          · have HXS := Kp.mk hxs
            clear hxs
            obtain ⟨c2, hc2'⟩ : ∃ c, c = decide (20 = k ∧ (z5.take (20 * 16)) = Pw) := ⟨_, rfl⟩
            have HC2 : Kp (decide (20 = k ∧ (z5.take (20 * 16)) = Pw) = c2) := ⟨hc2'.symm⟩
            clear hc2'
            refine wp_region_pred (fun w' => Row w' A 32 .u8 x4 ∧ HoldsS w' (.slice (some ⟨b, off, none⟩) q cap) q L ∧ HoldsS w' (.slice a5 20 cap5) 20 (z5.take (20 * 16)) ∧ HoldsS w' (.slice a15 k c15) k Pw ∧ Below A w w') [0, 1, 2, 3, 4, 5, 6, 7, 8, 9, 10] []
              (fun ι w' v => match ι with
                | 0 => v = dgV x4
                | 1 => v = .slice (some ⟨b, off, none⟩) q cap
                | 2 => v = .int .i64 j
                | 3 => v = .pointer (some ⟨b, off + j * 16, none⟩)
                | 4 => v = dgV s
                | 7 => v = .slice a5 20 cap5
                | 8 => v = .slice a15 k c15
                | 9 | 10 => v = .bool c2
                | _ => v = .bool true)
              [[], [], [], [(1, some 67), (2, some 68)], [(3, some 69)], [(0, some 66), (4, some 70)], [(5, some 71)], [(6, some 72)], [(6, some 72)], [(6, some 72), (7, some 73), (8, some 74)], [(6, some 72), (9, some 75)]]
              [(0, some 66), (1, some 67), (2, some 68), (3, some 69), (4, some 70), (5, some 71), (6, some 72), (7, some 73), (8, some 74), (9, some 75), (10, some 76)]
              (by kernel_rfl) (by kernel_rfl) (by kernel_rfl) (by kernel_rfl) (by kernel_rfl) (by kernel_rfl) (by decide) (by decide) (fun w1 w2 h hb => ⟨h.1.keep hb, h.2.1.keep hb, h.2.2.1.keep hb, h.2.2.2.1.keep hb, h.2.2.2.2.trans (hb.mono (Nat.le_of_lt h.1.lt))⟩) ?_ ⟨R8.out.drew, YL8.out.drew, Yp8.out.drew, Yv8.out.drew, B8.out.drew⟩ ?_ ?_
            · intro ι w1 w2 v h hb
              match ι, h with
              | 0, h => exact h
              | 1, h => exact h
              | 2, h => exact h
              | 3, h => exact h
              | 4, h => exact h
              | 5, h => exact h
              | 6, h => exact h
              | 7, h => exact h
              | 8, h => exact h
              | 9, h => exact h
              | 10, h => exact h
              | _ + 11, h => exact h
            · refine ⟨fun γ wx hS h => ?_, fun γ wx hS h => ?_, fun γ wx hS h => ?_, fun γ wx hS h => ?_, fun γ wx hS h => ?_, fun γ wx hS h => ?_, fun γ wx hS h => ?_, fun γ wx hS h => ?_, fun γ wx hS h => ?_, fun γ wx hS h => ?_, fun γ wx hS h => ?_, trivial⟩
              · refine ⟨_, rfl, Or.inl ⟨rfl, predRun_value (exec_load_blk 32 (.tmp 11) rfl (A) rfl 32 _ (0, 0) _ hS.1 Tryd.underlying32 rfl (cells49 HX4.out)) rfl⟩⟩
              · refine ⟨_, rfl, Or.inl ⟨rfl, predRun_value (v := .slice (some ⟨b, off, none⟩) q cap) (by simp only [putE]; first | rfl | (go_simp; done) | (go_simp; with_reducible rfl) | (go_simp; rfl)) rfl⟩⟩
              · refine ⟨_, rfl, Or.inl ⟨rfl, predRun_value (v := .int .i64 j) (by simp only [putE]; first | rfl | (go_simp; done) | (go_simp; with_reducible rfl) | (go_simp; rfl)) rfl⟩⟩
              · obtain ⟨h1, h2⟩ := h
                have e1 : γ 1 = .slice (some ⟨b, off, none⟩) q cap := h1
                have e2 : γ 2 = .int .i64 j := h2
                refine ⟨_, rfl, Or.inl ⟨rfl, predRun_value (exec_idx65 (x := .tmp 67) (y := .tmp 68) (B := b) (o := off) (n := q) (cap := cap) (j := j) rfl (by simp only [putE, e1, e2, Act.put, List.setIfInBounds_toArray, List.set_cons_zero, List.set_cons_succ]; rfl) (by simp only [putE, e1, e2, Act.put, List.setIfInBounds_toArray, List.set_cons_zero, List.set_cons_succ]; rfl) rfl hjq) rfl⟩⟩
              · have h3 := h
                have e3 : γ 3 = .pointer (some ⟨b, off + j * 16, none⟩) := h3
                refine ⟨_, rfl, Or.inl ⟨rfl, predRun_value (exec_load_midS (b := b) (off := off + j * 16) (x := .tmp 69) (cs := kv .u8 s) rfl (by simp only [putE, e3, Act.put, List.setIfInBounds_toArray, List.set_cons_zero, List.set_cons_succ]; rfl) (by rw [HSe.out]; exact hS.2.1.rangeAt hjq) Tryd.underlying32 rfl (cellsL32 HSl.out)) rfl⟩⟩
              · obtain ⟨h0, h4⟩ := h
                have e0 : γ 0 = dgV x4 := h0
                have e4 : γ 4 = dgV s := h4
                refine ⟨_, rfl, Or.inl ⟨rfl, predRun_value (v := .bool true) (by simp only [putE, e0, e4]; have hq : ∀ w, (binOp .eql 32 (dgV x4) (dgV s)).run Tryd.prog w = .ok (.bool true) w := fun w => (by rw [eq32 HB4.out HSb.out HX4.out HSl.out w, decide_eq_true HXS.out]); have hg := eqg32; first | (go_simp; done) | (go_simp; with_reducible rfl)) rfl⟩⟩
              · have h5 := h
                have e5 : γ 5 = .bool true := h5
                refine ⟨_, rfl, Or.inl ⟨rfl, predRun_value (v := .bool true) (by simp only [putE, e5]; first | rfl | (go_simp; done) | (go_simp; with_reducible rfl) | (go_simp; rfl)) rfl⟩⟩
              · have h6 := h
                have e6 : γ 6 = .bool true := h6
                refine ⟨_, rfl, Or.inl ⟨(by simp only [putE, e6]; first | kernel_rfl | rfl), predRun_value (v := .slice a5 20 cap5) (by simp only [putE, e6]; first | rfl | (go_simp; done) | (go_simp; with_reducible rfl) | (go_simp; rfl)) rfl⟩⟩
              · have h6 := h
                have e6 : γ 6 = .bool true := h6
                refine ⟨_, rfl, Or.inl ⟨(by simp only [putE, e6]; first | kernel_rfl | rfl), predRun_value (v := .slice a15 k c15) (by simp only [putE, e6]; first | rfl | (go_simp; done) | (go_simp; with_reducible rfl) | (go_simp; rfl)) rfl⟩⟩
              · obtain ⟨h6, h7, h8⟩ := h
                have e6 : γ 6 = .bool true := h6
                have e7 : γ 7 = .slice a5 20 cap5 := h7
                have e8 : γ 8 = .slice a15 k c15 := h8
                refine ⟨_, rfl, Or.inl ⟨(by simp only [putE, e6, e7, e8]; first | kernel_rfl | rfl), predRun_call (f := 49) (args := #[.slice a5 20 cap5, .slice a15 k c15]) (by simp only [putE, e6, e7, e8]; go_simp) ?_⟩⟩
                exact (sames_any (.slice a5 20 cap5) (.slice a15 k c15) 20 k (z5.take (20 * 16)) Pw wx hS.2.2.1 hS.2.2.2.1 HNs.out (by omega)).mono fun e w2 ⟨h1, h2⟩ => ⟨_, h1, congrArg Value.bool HC2.out, h2⟩
              · obtain ⟨h6, h9⟩ := h
                have e6 : γ 6 = .bool true := h6
                have e9 : γ 9 = .bool c2 := h9
                refine ⟨_, rfl, Or.inl ⟨rfl, predRun_value (v := .bool c2) (by simp only [putE, e6, e9]; first | rfl | (go_simp; done) | (go_simp; with_reducible rfl) | (go_simp; rfl)) rfl⟩⟩
            · intro γ w9 hS h
              have e10 : γ 10 = .bool c2 := h.2.2.2.2.2.2.2.2.2.2
              have R10 := Kp.mk hS.1
              have YL10 := Kp.mk hS.2.1
              have Yp10 := Kp.mk hS.2.2.1
              have Yv10 := Kp.mk hS.2.2.2.1
              have B10 := Kp.mk hS.2.2.2.2
              simp only [putE, Act.put, List.setIfInBounds_toArray, List.set_cons_zero, List.set_cons_succ]
              rw [e10]
              clear h hS e10
              clear R8 YL8 Yp8 Yv8 B8
              refine wpOps_done ?_
              cases hc2' : c2 with
              | true =>
                go_wp2_with fail
                refine (awake7 w9).mono ?_
                rintro r w8 ⟨rfl, hb⟩
                have BB : Kp (Below A w w8) := ⟨B10.out.trans (hb.mono (Nat.le_of_lt R10.out.lt))⟩
                clear hb
                go_wp2_with fail
                go_ret
                exact ⟨rfl, by rw [← HA.out]; exact BB.out⟩
              | false =>
                have HNE : Kp (¬ (x4 = segL L j ∧ (z5.take (20 * 16)) = pathG x0 x1 L k j)) := ⟨fun h => by
                  have h1 := HC2.out
                  rw [hc2'] at h1
                  exact of_decide_eq_false h1 ⟨(checkB_true HCt.out).1, by rw [HPw.out]; exact h.2⟩⟩
                clear hc2'
                go_wp2_with fail
                refine (rheight_pow q k w9 HQ.out (by omega)).mono ?_
                rintro r w1 ⟨rfl, e1⟩
                rw [e1]
                clear e1 w1
                go_wp2_with fail
                have HR0 : Kp ((0 + 1) * 2 ^ k ≤ q) := ⟨by rw [HQ.out]; omega⟩
                refine (rnodeG_any x0 x1 _ q cap L HE.out (by omega) HLn.out.1 HLn.out.2 k 0 0 w9 rfl (by omega) HR0.out YL10.out).mono ?_
                rintro r w11 ⟨v11, rfl, k1, hb⟩
                obtain ⟨a7, n7, c7, rfl, hn7⟩ := k1.slice
                have HN7 := Kp.mk hn7
                have T11 := Kp.mk k1
                have R11 := Kp.mk (R10.out.keep hb)
                have Yp11 := Kp.mk (Yp10.out.keep hb)
                have B11 : Kp (Below A w w11) := ⟨B10.out.trans (hb.mono (Nat.le_of_lt R10.out.lt))⟩
                clear k1 hb hn7 R10 YL10 Yp10 Yv10 B10
                rw [HRt.out]
                obtain ⟨W12, hW12⟩ : ∃ W, W = (w11.alloc z49).setRow w11.heap.size (kv .u8 root).toArray := ⟨_, rfl⟩
                have hb12 : Below w11.heap.size w11 W12 := by rw [hW12]; exact Below.row (more (Below.refl _ _) z49) (Nat.le_refl _) _
                have T12 := Kp.mk (T11.out.keep hb12)
                have R12 := Kp.mk (R11.out.keep hb12)
                have Yp12 := Kp.mk (Yp11.out.keep hb12)
                have B12 : Kp (Below A w W12) := ⟨B11.out.trans (hb12.mono (Nat.le_of_lt R11.out.lt))⟩
                clear hb12 T11 R11 Yp11 B11
                go_wp2_with first
                  | (refine wpList_store_row rfl 32 (.tmp 16) (.tmp 86) rfl w11.heap.size (kv .u8 root).toArray rfl rfl 32 _ (Blk.new w11 z49) (cells49 HRl.out.1) (size50 HRl.out.1) (kv_all _ _) ?_; refine wpl_world (· = W12) hW12.symm ?_; clear hW12; intro W0 e0; rw [e0]; clear e0)
                  | (refine wpList_load_row rfl 32 (.tmp 11) rfl A rfl 32 _ (0, 0) _ R12.out Tryd.underlying32 rfl (cells49 HX4.out) ?_)
                refine (rfold_any x0 x1 j x4 a5 20 cap5 (z5.take (20 * 16)) W12 HE.out HX4.out HB4.out Yp12.out).mono ?_
                rintro r w13 ⟨v13, rfl, k1, -, hb⟩
                obtain ⟨a8, n8, c8, rfl, hn8⟩ := k1.slice
                have HN8 := Kp.mk hn8
                have U13 := Kp.mk k1
                have T13 := Kp.mk (T12.out.keep hb)
                have B13 : Kp (Below A w w13) := ⟨B12.out.trans (hb.mono (Nat.le_of_lt R12.out.lt))⟩
                have HA13 : Kp (A ≤ w13.heap.size) := ⟨by have := hb.size; have := R12.out.lt; omega⟩
                clear k1 hb hn8 T12 R12 Yp12 B12
                have HZl := Kp.mk (foldS_len x0 x1 x4 j (z5.take (20 * 16)) 20 HX4.out)
                generalize foldS x0 x1 x4 j (z5.take (20 * 16)) 20 = z at HZl ⊢
                obtain ⟨W14, hW14⟩ : ∃ W, W = (w13.alloc z49).setRow w13.heap.size (kv .u8 z).toArray := ⟨_, rfl⟩
                have hb14 : Below w13.heap.size w13 W14 := by rw [hW14]; exact Below.row (more (Below.refl _ _) z49) (Nat.le_refl _) _
                have T14 := Kp.mk (T13.out.keep hb14)
                have U14 := Kp.mk (U13.out.keep hb14)
                have B14 : Kp (Below A w W14) := ⟨B13.out.trans (hb14.mono HA13.out)⟩
                have HA14 : Kp (A ≤ W14.heap.size) := ⟨by have := hb14.size; have := HA13.out; omega⟩
                clear hb14 T13 U13 B13 HA13
                go_wp2_with (refine wpList_store_row rfl 32 (.tmp 18) (.tmp 95) rfl w13.heap.size (kv .u8 z).toArray rfl rfl 32 _ (Blk.new w13 z49) (cells49 HZl.out) (size50 HZl.out) (kv_all _ _) ?_; refine wpl_world (· = W14) hW14.symm ?_; clear hW14; intro W0 e0; rw [e0]; clear e0)
                refine (awake7 W14).mono ?_
                rintro r w15 ⟨rfl, hb⟩
                have T15 := Kp.mk (T14.out.keep hb)
                have U15 := Kp.mk (U14.out.keep hb)
                have B15 : Kp (Below A w w15) := ⟨B14.out.trans (hb.mono HA14.out)⟩
                have HA15 : Kp (A ≤ w15.heap.size) := ⟨by have := hb.size; have := HA14.out; omega⟩
                clear hb T14 U14 B14 HA14
                go_wp2_with fail
                have hcl : ClashP (nodeGT x0 x1 L k 0) (foldT x0 x1 x4 j (z5.take (20 * 16)) 20) := checkB_clash HL2.out HX4.out HLb.out.1 HJ.out HCt.out HNE.out
                refine (clash_any a7 n7 c7 _ a8 n8 c8 _ w15 T15.out U15.out (by rw [HN7.out]; exact nodeGT_cons _ _ _ _ _) (by rw [HN8.out]; exact foldT_cons _ _ _ _ _ _ HX4.out) (by rw [HN7.out]; exact nodeGT_small _ _ _ _ _ (by omega)) (by rw [HN8.out]; exact foldT_small _ _ _ _ _ _)).mono ?_
                rintro r w16 ⟨x, rfl, hx, hb⟩
                have hxt : x = true := hx.2 hcl
                subst hxt
                clear hcl hx
                have BB : Kp (Below A w w16) := ⟨B15.out.trans (hb.mono HA15.out)⟩
                clear hb
                go_wp2_with fail
                go_ret
                exact ⟨rfl, by rw [← HA.out]; exact BB.out⟩
          · have HNE : Kp (¬ (x4 = segL L j ∧ (z5.take (20 * 16)) = pathG x0 x1 L k j)) := ⟨fun h => hxs (by rw [HSe.out]; exact h.1)⟩
            have HXS := Kp.mk hxs
            clear hxs
            refine wp_region_pred (fun w' => Row w' A 32 .u8 x4 ∧ HoldsS w' (.slice (some ⟨b, off, none⟩) q cap) q L ∧ HoldsS w' (.slice a5 20 cap5) 20 (z5.take (20 * 16)) ∧ HoldsS w' (.slice a15 k c15) k Pw ∧ Below A w w') [0, 1, 2, 3, 4, 5, 6, 7, 8, 9, 10] []
              (fun ι w' v => match ι with
                | 0 => v = dgV x4
                | 1 => v = .slice (some ⟨b, off, none⟩) q cap
                | 2 => v = .int .i64 j
                | 3 => v = .pointer (some ⟨b, off + j * 16, none⟩)
                | 4 => v = dgV s
                | 5 | 6 | 10 => v = .bool false
                | 7 | 8 | 9 => v = undef
                | _ => v = .bool true)
              [[], [], [], [(1, some 67), (2, some 68)], [(3, some 69)], [(0, some 66), (4, some 70)], [(5, some 71)], [(6, some 72)], [(6, some 72)], [(6, some 72), (7, some 73), (8, some 74)], [(6, some 72), (9, some 75)]]
              [(0, some 66), (1, some 67), (2, some 68), (3, some 69), (4, some 70), (5, some 71), (6, some 72), (7, some 73), (8, some 74), (9, some 75), (10, some 76)]
              (by kernel_rfl) (by kernel_rfl) (by kernel_rfl) (by kernel_rfl) (by kernel_rfl) (by kernel_rfl) (by decide) (by decide) (fun w1 w2 h hb => ⟨h.1.keep hb, h.2.1.keep hb, h.2.2.1.keep hb, h.2.2.2.1.keep hb, h.2.2.2.2.trans (hb.mono (Nat.le_of_lt h.1.lt))⟩) ?_ ⟨R8.out.drew, YL8.out.drew, Yp8.out.drew, Yv8.out.drew, B8.out.drew⟩ ?_ ?_
            · intro ι w1 w2 v h hb
              match ι, h with
              | 0, h => exact h
              | 1, h => exact h
              | 2, h => exact h
              | 3, h => exact h
              | 4, h => exact h
              | 5, h => exact h
              | 6, h => exact h
              | 7, h => exact h
              | 8, h => exact h
              | 9, h => exact h
              | 10, h => exact h
              | _ + 11, h => exact h
            · refine ⟨fun γ wx hS h => ?_, fun γ wx hS h => ?_, fun γ wx hS h => ?_, fun γ wx hS h => ?_, fun γ wx hS h => ?_, fun γ wx hS h => ?_, fun γ wx hS h => ?_, fun γ wx hS h => ?_, fun γ wx hS h => ?_, fun γ wx hS h => ?_, fun γ wx hS h => ?_, trivial⟩
              · refine ⟨_, rfl, Or.inl ⟨rfl, predRun_value (exec_load_blk 32 (.tmp 11) rfl (A) rfl 32 _ (0, 0) _ hS.1 Tryd.underlying32 rfl (cells49 HX4.out)) rfl⟩⟩
              · refine ⟨_, rfl, Or.inl ⟨rfl, predRun_value (v := .slice (some ⟨b, off, none⟩) q cap) (by simp only [putE]; first | rfl | (go_simp; done) | (go_simp; with_reducible rfl) | (go_simp; rfl)) rfl⟩⟩
              · refine ⟨_, rfl, Or.inl ⟨rfl, predRun_value (v := .int .i64 j) (by simp only [putE]; first | rfl | (go_simp; done) | (go_simp; with_reducible rfl) | (go_simp; rfl)) rfl⟩⟩
              · obtain ⟨h1, h2⟩ := h
                have e1 : γ 1 = .slice (some ⟨b, off, none⟩) q cap := h1
                have e2 : γ 2 = .int .i64 j := h2
                refine ⟨_, rfl, Or.inl ⟨rfl, predRun_value (exec_idx65 (x := .tmp 67) (y := .tmp 68) (B := b) (o := off) (n := q) (cap := cap) (j := j) rfl (by simp only [putE, e1, e2, Act.put, List.setIfInBounds_toArray, List.set_cons_zero, List.set_cons_succ]; rfl) (by simp only [putE, e1, e2, Act.put, List.setIfInBounds_toArray, List.set_cons_zero, List.set_cons_succ]; rfl) rfl hjq) rfl⟩⟩
              · have h3 := h
                have e3 : γ 3 = .pointer (some ⟨b, off + j * 16, none⟩) := h3
                refine ⟨_, rfl, Or.inl ⟨rfl, predRun_value (exec_load_midS (b := b) (off := off + j * 16) (x := .tmp 69) (cs := kv .u8 s) rfl (by simp only [putE, e3, Act.put, List.setIfInBounds_toArray, List.set_cons_zero, List.set_cons_succ]; rfl) (by rw [HSe.out]; exact hS.2.1.rangeAt hjq) Tryd.underlying32 rfl (cellsL32 HSl.out)) rfl⟩⟩
              · obtain ⟨h0, h4⟩ := h
                have e0 : γ 0 = dgV x4 := h0
                have e4 : γ 4 = dgV s := h4
                refine ⟨_, rfl, Or.inl ⟨rfl, predRun_value (v := .bool false) (by simp only [putE, e0, e4]; have hq : ∀ w, (binOp .eql 32 (dgV x4) (dgV s)).run Tryd.prog w = .ok (.bool false) w := fun w => (by rw [eq32 HB4.out HSb.out HX4.out HSl.out w, decide_eq_false HXS.out]); have hg := eqg32; first | (go_simp; done) | (go_simp; with_reducible rfl)) rfl⟩⟩
              · have h5 := h
                have e5 : γ 5 = .bool false := h5
                refine ⟨_, rfl, Or.inl ⟨rfl, predRun_value (v := .bool false) (by simp only [putE, e5]; first | rfl | (go_simp; done) | (go_simp; with_reducible rfl) | (go_simp; rfl)) rfl⟩⟩
              · have h6 := h
                have e6 : γ 6 = .bool false := h6
                refine ⟨_, rfl, Or.inr ⟨(by simp only [putE, e6]; first | kernel_rfl | rfl), rfl⟩⟩
              · have h6 := h
                have e6 : γ 6 = .bool false := h6
                refine ⟨_, rfl, Or.inr ⟨(by simp only [putE, e6]; first | kernel_rfl | rfl), rfl⟩⟩
              · obtain ⟨h6, h7, h8⟩ := h
                have e6 : γ 6 = .bool false := h6
                have e7 : γ 7 = undef := h7
                have e8 : γ 8 = undef := h8
                refine ⟨_, rfl, Or.inr ⟨(by simp only [putE, e6, e7, e8]; first | kernel_rfl | rfl), rfl⟩⟩
              · obtain ⟨h6, h9⟩ := h
                have e6 : γ 6 = .bool false := h6
                have e9 : γ 9 = undef := h9
                refine ⟨_, rfl, Or.inl ⟨rfl, predRun_value (v := .bool false) (by simp only [putE, e6, e9]; first | rfl | (go_simp; done) | (go_simp; with_reducible rfl) | (go_simp; rfl)) rfl⟩⟩
            · intro γ w9 hS h
              have e10 : γ 10 = .bool false := h.2.2.2.2.2.2.2.2.2.2
              have R10 := Kp.mk hS.1
              have YL10 := Kp.mk hS.2.1
              have Yp10 := Kp.mk hS.2.2.1
              have Yv10 := Kp.mk hS.2.2.2.1
              have B10 := Kp.mk hS.2.2.2.2
              simp only [putE, Act.put, List.setIfInBounds_toArray, List.set_cons_zero, List.set_cons_succ]
              rw [e10]
              clear h hS e10
              clear R8 YL8 Yp8 Yv8 B8
              refine wpOps_done ?_
              go_wp2_with fail
              refine (rheight_pow q k w9 HQ.out (by omega)).mono ?_
              rintro r w1 ⟨rfl, e1⟩
              rw [e1]
              clear e1 w1
              go_wp2_with fail
              have HR0 : Kp ((0 + 1) * 2 ^ k ≤ q) := ⟨by rw [HQ.out]; omega⟩
              refine (rnodeG_any x0 x1 _ q cap L HE.out (by omega) HLn.out.1 HLn.out.2 k 0 0 w9 rfl (by omega) HR0.out YL10.out).mono ?_
              rintro r w11 ⟨v11, rfl, k1, hb⟩
              obtain ⟨a7, n7, c7, rfl, hn7⟩ := k1.slice
              have HN7 := Kp.mk hn7
              have T11 := Kp.mk k1
              have R11 := Kp.mk (R10.out.keep hb)
              have Yp11 := Kp.mk (Yp10.out.keep hb)
              have B11 : Kp (Below A w w11) := ⟨B10.out.trans (hb.mono (Nat.le_of_lt R10.out.lt))⟩
              clear k1 hb hn7 R10 YL10 Yp10 Yv10 B10
              rw [HRt.out]
              obtain ⟨W12, hW12⟩ : ∃ W, W = (w11.alloc z49).setRow w11.heap.size (kv .u8 root).toArray := ⟨_, rfl⟩
              have hb12 : Below w11.heap.size w11 W12 := by rw [hW12]; exact Below.row (more (Below.refl _ _) z49) (Nat.le_refl _) _
              have T12 := Kp.mk (T11.out.keep hb12)
              have R12 := Kp.mk (R11.out.keep hb12)
              have Yp12 := Kp.mk (Yp11.out.keep hb12)
              have B12 : Kp (Below A w W12) := ⟨B11.out.trans (hb12.mono (Nat.le_of_lt R11.out.lt))⟩
              clear hb12 T11 R11 Yp11 B11
              go_wp2_with first
                | (refine wpList_store_row rfl 32 (.tmp 16) (.tmp 86) rfl w11.heap.size (kv .u8 root).toArray rfl rfl 32 _ (Blk.new w11 z49) (cells49 HRl.out.1) (size50 HRl.out.1) (kv_all _ _) ?_; refine wpl_world (· = W12) hW12.symm ?_; clear hW12; intro W0 e0; rw [e0]; clear e0)
                | (refine wpList_load_row rfl 32 (.tmp 11) rfl A rfl 32 _ (0, 0) _ R12.out Tryd.underlying32 rfl (cells49 HX4.out) ?_)
              refine (rfold_any x0 x1 j x4 a5 20 cap5 (z5.take (20 * 16)) W12 HE.out HX4.out HB4.out Yp12.out).mono ?_
              rintro r w13 ⟨v13, rfl, k1, -, hb⟩
              obtain ⟨a8, n8, c8, rfl, hn8⟩ := k1.slice
              have HN8 := Kp.mk hn8
              have U13 := Kp.mk k1
              have T13 := Kp.mk (T12.out.keep hb)
              have B13 : Kp (Below A w w13) := ⟨B12.out.trans (hb.mono (Nat.le_of_lt R12.out.lt))⟩
              have HA13 : Kp (A ≤ w13.heap.size) := ⟨by have := hb.size; have := R12.out.lt; omega⟩
              clear k1 hb hn8 T12 R12 Yp12 B12
              have HZl := Kp.mk (foldS_len x0 x1 x4 j (z5.take (20 * 16)) 20 HX4.out)
              generalize foldS x0 x1 x4 j (z5.take (20 * 16)) 20 = z at HZl ⊢
              obtain ⟨W14, hW14⟩ : ∃ W, W = (w13.alloc z49).setRow w13.heap.size (kv .u8 z).toArray := ⟨_, rfl⟩
              have hb14 : Below w13.heap.size w13 W14 := by rw [hW14]; exact Below.row (more (Below.refl _ _) z49) (Nat.le_refl _) _
              have T14 := Kp.mk (T13.out.keep hb14)
              have U14 := Kp.mk (U13.out.keep hb14)
              have B14 : Kp (Below A w W14) := ⟨B13.out.trans (hb14.mono HA13.out)⟩
              have HA14 : Kp (A ≤ W14.heap.size) := ⟨by have := hb14.size; have := HA13.out; omega⟩
              clear hb14 T13 U13 B13 HA13
              go_wp2_with (refine wpList_store_row rfl 32 (.tmp 18) (.tmp 95) rfl w13.heap.size (kv .u8 z).toArray rfl rfl 32 _ (Blk.new w13 z49) (cells49 HZl.out) (size50 HZl.out) (kv_all _ _) ?_; refine wpl_world (· = W14) hW14.symm ?_; clear hW14; intro W0 e0; rw [e0]; clear e0)
              refine (awake7 W14).mono ?_
              rintro r w15 ⟨rfl, hb⟩
              have T15 := Kp.mk (T14.out.keep hb)
              have U15 := Kp.mk (U14.out.keep hb)
              have B15 : Kp (Below A w w15) := ⟨B14.out.trans (hb.mono HA14.out)⟩
              have HA15 : Kp (A ≤ w15.heap.size) := ⟨by have := hb.size; have := HA14.out; omega⟩
              clear hb T14 U14 B14 HA14
              go_wp2_with fail
              have hcl : ClashP (nodeGT x0 x1 L k 0) (foldT x0 x1 x4 j (z5.take (20 * 16)) 20) := checkB_clash HL2.out HX4.out HLb.out.1 HJ.out HCt.out HNE.out
              refine (clash_any a7 n7 c7 _ a8 n8 c8 _ w15 T15.out U15.out (by rw [HN7.out]; exact nodeGT_cons _ _ _ _ _) (by rw [HN8.out]; exact foldT_cons _ _ _ _ _ _ HX4.out) (by rw [HN7.out]; exact nodeGT_small _ _ _ _ _ (by omega)) (by rw [HN8.out]; exact foldT_small _ _ _ _ _ _)).mono ?_
              rintro r w16 ⟨x, rfl, hx, hb⟩
              have hxt : x = true := hx.2 hcl
              subst hxt
              clear hcl hx
              have BB : Kp (Below A w w16) := ⟨B15.out.trans (hb.mono HA15.out)⟩
              clear hb
              go_wp2_with fail
              go_ret
              exact ⟨rfl, by rw [← HA.out]; exact BB.out⟩
    · have hcut2 : ¬ (20 : Int) < (len5 : Int) := by omega
      have Yp4 := Y4p
      clear Y4p
      go_wp2_with fail
      have HNs : Kp (len5 ≤ 1000000) := ⟨by omega⟩
      have HLb : Kp ((z5).length = len5 * 16 ∧ Bytes z5) := ⟨by obtain ⟨_, _, _, k1, _, k2, _⟩ := Yp4.out; exact ⟨k1, k2⟩⟩
      obtain ⟨c, hc⟩ : ∃ c, c = checkB x0 x1 k root j x4 z5 len5 := ⟨_, rfl⟩
      have HCc := Kp.mk hc
      clear hc
      refine wp_region_pred (fun w' => Row w' A 32 .u8 x4 ∧ HoldsS w' (.slice (some ⟨b, off, none⟩) q cap) q L ∧ HoldsS w' (.slice a5 len5 cap5) len5 z5 ∧ HoldsS w' (.slice a15 k c15) k Pw ∧ Below A w w') [0, 1, 2, 3, 4, 5, 6, 7, 8, 9, 10, 11, 12, 13, 14] []
        (fun ι w' v => match ι with
          | 0 | 5 => v = .int .i64 x0
          | 1 | 6 => v = .int .u32 x1
          | 2 | 7 => v = .slice (some ⟨b, off, none⟩) q cap
          | 3 => v = .int .i64 q
          | 4 => v = .int .i64 k
          | 8 => v = dgV root
          | 9 => v = .int .i64 j
          | 10 => v = dgV x4
          | 11 => v = .slice a5 len5 cap5
          | 13 => v = .bool c
          | 14 => v = .bool (!c)
          | 12 => HoldsS w' v len5 z5
          | _ => v = .bool true)
        [[], [], [], [(2, some 48)], [(3, some 49)], [], [], [], [(4, some 50), (5, some 51), (6, some 52), (7, some 53)], [], [], [], [(8, some 54), (11, some 57)], [(0, some 46), (1, some 47), (4, some 50), (8, some 54), (9, some 55), (10, some 56), (12, some 58)], [(13, some 59)]]
        [(0, some 46), (1, some 47), (2, some 48), (3, some 49), (4, some 50), (5, some 51), (6, some 52), (7, some 53), (8, some 54), (9, some 55), (10, some 56), (11, some 57), (12, some 58), (13, some 59), (14, some 60)]
        (by kernel_rfl) (by kernel_rfl) (by kernel_rfl) (by kernel_rfl) (by kernel_rfl) (by kernel_rfl) (by decide) (by decide) (fun w1 w2 h hb => ⟨h.1.keep hb, h.2.1.keep hb, h.2.2.1.keep hb, h.2.2.2.1.keep hb, h.2.2.2.2.trans (hb.mono (Nat.le_of_lt h.1.lt))⟩) ?_ ⟨R4.out.drew, YL4.out.drew, Yp4.out.drew, Yv4.out.drew, B4.out.drew⟩ ?_ ?_
      · intro ι w1 w2 v h hb
        by_cases h12 : ι = 12
        · subst h12
          exact HoldsS.keep h hb
        match ι, h12, h with
        | 0, _, h => exact h
        | 1, _, h => exact h
        | 2, _, h => exact h
        | 3, _, h => exact h
        | 4, _, h => exact h
        | 5, _, h => exact h
        | 6, _, h => exact h
        | 7, _, h => exact h
        | 8, _, h => exact h
        | 9, _, h => exact h
        | 10, _, h => exact h
        | 11, _, h => exact h
        | 12, g, h => exact absurd rfl g
        | 13, _, h => exact h
        | 14, _, h => exact h
        | _ + 15, _, h => exact h
      · refine ⟨fun γ wx hS h => ?_, fun γ wx hS h => ?_, fun γ wx hS h => ?_, fun γ wx hS h => ?_, fun γ wx hS h => ?_, fun γ wx hS h => ?_, fun γ wx hS h => ?_, fun γ wx hS h => ?_, fun γ wx hS h => ?_, fun γ wx hS h => ?_, fun γ wx hS h => ?_, fun γ wx hS h => ?_, fun γ wx hS h => ?_, fun γ wx hS h => ?_, fun γ wx hS h => ?_, trivial⟩
        · refine ⟨_, rfl, Or.inl ⟨rfl, predRun_value (v := .int .i64 x0) (by simp only [putE]; first | rfl | (go_simp; done) | (go_simp; with_reducible rfl) | (go_simp; rfl)) rfl⟩⟩
        · refine ⟨_, rfl, Or.inl ⟨rfl, predRun_value (v := .int .u32 x1) (by simp only [putE]; first | rfl | (go_simp; done) | (go_simp; with_reducible rfl) | (go_simp; rfl)) rfl⟩⟩
        · refine ⟨_, rfl, Or.inl ⟨rfl, predRun_value (v := .slice (some ⟨b, off, none⟩) q cap) (by simp only [putE]; first | rfl | (go_simp; done) | (go_simp; with_reducible rfl) | (go_simp; rfl)) rfl⟩⟩
        · have h2 := h
          have e2 : γ 2 = .slice (some ⟨b, off, none⟩) q cap := h2
          refine ⟨_, rfl, Or.inl ⟨rfl, predRun_value (v := .int .i64 q) (by simp only [putE, e2]; first | rfl | (go_simp; done) | (go_simp; with_reducible rfl) | (go_simp; rfl)) rfl⟩⟩
        · have h3 := h
          have e3 : γ 3 = .int .i64 q := h3
          refine ⟨_, rfl, Or.inl ⟨rfl, predRun_call (f := 61) (args := #[.int .i64 q]) (by simp only [putE, e3]; go_simp) ?_⟩⟩
          exact (rheight_pow q k wx HQ.out (by omega)).mono fun e w2 ⟨h1, h2⟩ => ⟨_, h1, rfl, h2 ▸ Below.refl _ _⟩
        · refine ⟨_, rfl, Or.inl ⟨rfl, predRun_value (v := .int .i64 x0) (by simp only [putE]; first | rfl | (go_simp; done) | (go_simp; with_reducible rfl) | (go_simp; rfl)) rfl⟩⟩
        · refine ⟨_, rfl, Or.inl ⟨rfl, predRun_value (v := .int .u32 x1) (by simp only [putE]; first | rfl | (go_simp; done) | (go_simp; with_reducible rfl) | (go_simp; rfl)) rfl⟩⟩
        · refine ⟨_, rfl, Or.inl ⟨rfl, predRun_value (v := .slice (some ⟨b, off, none⟩) q cap) (by simp only [putE]; first | rfl | (go_simp; done) | (go_simp; with_reducible rfl) | (go_simp; rfl)) rfl⟩⟩
        · obtain ⟨h4, h5, h6, h7⟩ := h
          have e4 : γ 4 = .int .i64 k := h4
          have e5 : γ 5 = .int .i64 x0 := h5
          have e6 : γ 6 = .int .u32 x1 := h6
          have e7 : γ 7 = .slice (some ⟨b, off, none⟩) q cap := h7
          refine ⟨_, rfl, Or.inl ⟨rfl, predRun_call (f := 64) (args := #[.int .i64 x0, .int .u32 x1, .slice (some ⟨b, off, none⟩) q cap]) (by simp only [putE, e4, e5, e6, e7]; go_simp) ?_⟩⟩
          exact (rrootG_any x0 x1 _ q cap L k wx HE.out HQ.out (by omega) hS.2.1).mono fun e w2 ⟨h1, h2⟩ => ⟨_, h1, congrArg dgV HRt.out, h2⟩
        · refine ⟨_, rfl, Or.inl ⟨rfl, predRun_value (v := .int .i64 j) (by simp only [putE]; first | rfl | (go_simp; done) | (go_simp; with_reducible rfl) | (go_simp; rfl)) rfl⟩⟩
        · refine ⟨_, rfl, Or.inl ⟨rfl, predRun_value (exec_load_blk 32 (.tmp 11) rfl (A) rfl 32 _ (0, 0) _ hS.1 Tryd.underlying32 rfl (cells49 HX4.out)) rfl⟩⟩
        · refine ⟨_, rfl, Or.inl ⟨rfl, predRun_value (v := .slice a5 len5 cap5) (by simp only [putE]; first | rfl | (go_simp; done) | (go_simp; with_reducible rfl) | (go_simp; rfl)) rfl⟩⟩
        · obtain ⟨h8, h11⟩ := h
          have e8 : γ 8 = dgV root := h8
          have e11 : γ 11 = .slice a5 len5 cap5 := h11
          refine ⟨_, rfl, Or.inl ⟨rfl, predRun_call (f := 47) (args := #[.slice a5 len5 cap5]) (by simp only [putE, e8, e11]; go_simp) ?_⟩⟩
          refine (toS_any _ len5 z5 wx hS.2.2.1 HNs.out).mono ?_
          rintro e w2 ⟨v', h1, h2, h3⟩
          exact ⟨v', h1, HoldsS.ofRow HLb.out.2 (by have := HNs.out; unfold maxLen; omega) HLb.out.1 h2, h3⟩
        · obtain ⟨h0, h1, h4, h8, h9, h10, h12⟩ := h
          have e0 : γ 0 = .int .i64 x0 := h0
          have e1 : γ 1 = .int .u32 x1 := h1
          have e4 : γ 4 = .int .i64 k := h4
          have e8 : γ 8 = dgV root := h8
          have e9 : γ 9 = .int .i64 j := h9
          have e10 : γ 10 = dgV x4 := h10
          have p12 : HoldsS wx (γ 12) len5 z5 := h12
          obtain ⟨a9, c9, h9', -⟩ := id p12
          refine ⟨_, rfl, Or.inl ⟨rfl, predRun_call (f := 72) (args := #[.int .i64 x0, .int .u32 x1, .int .i64 k, dgV root, .int .i64 j, dgV x4, .slice a9 len5 c9]) (by simp only [putE, e0, e1, e4, e8, e9, e10, h9']; go_simp) ?_⟩⟩
          rw [h9'] at p12
          exact (check_any x0 x1 k j root x4 a9 len5 c9 z5 wx (HK.out.keep (by rw [← HA.out]; exact hS.2.2.2.2)) HE.out HRl.out.1 HRl.out.2 HX4.out HB4.out p12).mono fun e w2 ⟨h1, h2⟩ => ⟨_, h1, by show Value.bool _ = Value.bool c; rw [HCc.out], h2⟩
        · have h13 := h
          have e13 : γ 13 = .bool c := h13
          refine ⟨_, rfl, Or.inl ⟨rfl, predRun_value (v := .bool (!c)) (by simp only [putE, e13]; clear HCc; cases c <;> first | rfl | (go_simp; done) | (go_simp; with_reducible rfl) | (go_simp; rfl)) rfl⟩⟩
      · intro γ w9 hS h
        have e14 : γ 14 = .bool (!c) := h.2.2.2.2.2.2.2.2.2.2.2.2.2.2
        have R8 := Kp.mk hS.1
        have YL8 := Kp.mk hS.2.1
        have Yp8 := Kp.mk hS.2.2.1
        have Yv8 := Kp.mk hS.2.2.2.1
        have B8 := Kp.mk hS.2.2.2.2
        simp only [putE, Act.put, List.setIfInBounds_toArray, List.set_cons_zero, List.set_cons_succ]
        rw [e14]
        clear h hS e14
        clear R4 YL4 Yp4 Yv4 B4
        refine wpOps_done ?_
        cases hc : c with
        | false =>
          go_wp2_with fail
          refine (awake7 w9).mono ?_
          rintro r w8 ⟨rfl, hb⟩
          have BB : Kp (Below A w w8) := ⟨B8.out.trans (hb.mono (Nat.le_of_lt R8.out.lt))⟩
          clear hb
          go_wp2_with fail
          go_ret
          exact ⟨rfl, by rw [← HA.out]; exact BB.out⟩
        | true =>
          have HCt : Kp (checkB x0 x1 k (nodeG x0 x1 L k 0) j x4 z5 len5 = true) := ⟨by rw [HRt.out, ← HCc.out]; exact hc⟩
          clear hc
          go_wp2_with fail
          by_cases hxs : x4 = s
          · have HXS := Kp.mk hxs
            clear hxs
            obtain ⟨c2, hc2'⟩ : ∃ c, c = decide (len5 = k ∧ z5 = Pw) := ⟨_, rfl⟩
            have HC2 : Kp (decide (len5 = k ∧ z5 = Pw) = c2) := ⟨hc2'.symm⟩
            clear hc2'
            refine wp_region_pred (fun w' => Row w' A 32 .u8 x4 ∧ HoldsS w' (.slice (some ⟨b, off, none⟩) q cap) q L ∧ HoldsS w' (.slice a5 len5 cap5) len5 z5 ∧ HoldsS w' (.slice a15 k c15) k Pw ∧ Below A w w') [0, 1, 2, 3, 4, 5, 6, 7, 8, 9, 10] []
              (fun ι w' v => match ι with
                | 0 => v = dgV x4
                | 1 => v = .slice (some ⟨b, off, none⟩) q cap
                | 2 => v = .int .i64 j
                | 3 => v = .pointer (some ⟨b, off + j * 16, none⟩)
                | 4 => v = dgV s
                | 7 => v = .slice a5 len5 cap5
                | 8 => v = .slice a15 k c15
                | 9 | 10 => v = .bool c2
                | _ => v = .bool true)
              [[], [], [], [(1, some 67), (2, some 68)], [(3, some 69)], [(0, some 66), (4, some 70)], [(5, some 71)], [(6, some 72)], [(6, some 72)], [(6, some 72), (7, some 73), (8, some 74)], [(6, some 72), (9, some 75)]]
              [(0, some 66), (1, some 67), (2, some 68), (3, some 69), (4, some 70), (5, some 71), (6, some 72), (7, some 73), (8, some 74), (9, some 75), (10, some 76)]
              (by kernel_rfl) (by kernel_rfl) (by kernel_rfl) (by kernel_rfl) (by kernel_rfl) (by kernel_rfl) (by decide) (by decide) (fun w1 w2 h hb => ⟨h.1.keep hb, h.2.1.keep hb, h.2.2.1.keep hb, h.2.2.2.1.keep hb, h.2.2.2.2.trans (hb.mono (Nat.le_of_lt h.1.lt))⟩) ?_ ⟨R8.out.drew, YL8.out.drew, Yp8.out.drew, Yv8.out.drew, B8.out.drew⟩ ?_ ?_
            · intro ι w1 w2 v h hb
              match ι, h with
              | 0, h => exact h
              | 1, h => exact h
              | 2, h => exact h
              | 3, h => exact h
              | 4, h => exact h
              | 5, h => exact h
              | 6, h => exact h
              | 7, h => exact h
              | 8, h => exact h
              | 9, h => exact h
              | 10, h => exact h
              | _ + 11, h => exact h
            · refine ⟨fun γ wx hS h => ?_, fun γ wx hS h => ?_, fun γ wx hS h => ?_, fun γ wx hS h => ?_, fun γ wx hS h => ?_, fun γ wx hS h => ?_, fun γ wx hS h => ?_, fun γ wx hS h => ?_, fun γ wx hS h => ?_, fun γ wx hS h => ?_, fun γ wx hS h => ?_, trivial⟩
              · refine ⟨_, rfl, Or.inl ⟨rfl, predRun_value (exec_load_blk 32 (.tmp 11) rfl (A) rfl 32 _ (0, 0) _ hS.1 Tryd.underlying32 rfl (cells49 HX4.out)) rfl⟩⟩
              · refine ⟨_, rfl, Or.inl ⟨rfl, predRun_value (v := .slice (some ⟨b, off, none⟩) q cap) (by simp only [putE]; first | rfl | (go_simp; done) | (go_simp; with_reducible rfl) | (go_simp; rfl)) rfl⟩⟩
              · refine ⟨_, rfl, Or.inl ⟨rfl, predRun_value (v := .int .i64 j) (by simp only [putE]; first | rfl | (go_simp; done) | (go_simp; with_reducible rfl) | (go_simp; rfl)) rfl⟩⟩
              · obtain ⟨h1, h2⟩ := h
                have e1 : γ 1 = .slice (some ⟨b, off, none⟩) q cap := h1
                have e2 : γ 2 = .int .i64 j := h2
                refine ⟨_, rfl, Or.inl ⟨rfl, predRun_value (exec_idx65 (x := .tmp 67) (y := .tmp 68) (B := b) (o := off) (n := q) (cap := cap) (j := j) rfl (by simp only [putE, e1, e2, Act.put, List.setIfInBounds_toArray, List.set_cons_zero, List.set_cons_succ]; rfl) (by simp only [putE, e1, e2, Act.put, List.setIfInBounds_toArray, List.set_cons_zero, List.set_cons_succ]; rfl) rfl hjq) rfl⟩⟩
              · have h3 := h
                have e3 : γ 3 = .pointer (some ⟨b, off + j * 16, none⟩) := h3
                refine ⟨_, rfl, Or.inl ⟨rfl, predRun_value (exec_load_midS (b := b) (off := off + j * 16) (x := .tmp 69) (cs := kv .u8 s) rfl (by simp only [putE, e3, Act.put, List.setIfInBounds_toArray, List.set_cons_zero, List.set_cons_succ]; rfl) (by rw [HSe.out]; exact hS.2.1.rangeAt hjq) Tryd.underlying32 rfl (cellsL32 HSl.out)) rfl⟩⟩
              · obtain ⟨h0, h4⟩ := h
                have e0 : γ 0 = dgV x4 := h0
                have e4 : γ 4 = dgV s := h4
                refine ⟨_, rfl, Or.inl ⟨rfl, predRun_value (v := .bool true) (by simp only [putE, e0, e4]; have hq : ∀ w, (binOp .eql 32 (dgV x4) (dgV s)).run Tryd.prog w = .ok (.bool true) w := fun w => (by rw [eq32 HB4.out HSb.out HX4.out HSl.out w, decide_eq_true HXS.out]); have hg := eqg32; first | (go_simp; done) | (go_simp; with_reducible rfl)) rfl⟩⟩
              · have h5 := h
                have e5 : γ 5 = .bool true := h5
                refine ⟨_, rfl, Or.inl ⟨rfl, predRun_value (v := .bool true) (by simp only [putE, e5]; first | rfl | (go_simp; done) | (go_simp; with_reducible rfl) | (go_simp; rfl)) rfl⟩⟩
              · have h6 := h
                have e6 : γ 6 = .bool true := h6
                refine ⟨_, rfl, Or.inl ⟨(by simp only [putE, e6]; first | kernel_rfl | rfl), predRun_value (v := .slice a5 len5 cap5) (by simp only [putE, e6]; first | rfl | (go_simp; done) | (go_simp; with_reducible rfl) | (go_simp; rfl)) rfl⟩⟩
              · have h6 := h
                have e6 : γ 6 = .bool true := h6
                refine ⟨_, rfl, Or.inl ⟨(by simp only [putE, e6]; first | kernel_rfl | rfl), predRun_value (v := .slice a15 k c15) (by simp only [putE, e6]; first | rfl | (go_simp; done) | (go_simp; with_reducible rfl) | (go_simp; rfl)) rfl⟩⟩
              · obtain ⟨h6, h7, h8⟩ := h
                have e6 : γ 6 = .bool true := h6
                have e7 : γ 7 = .slice a5 len5 cap5 := h7
                have e8 : γ 8 = .slice a15 k c15 := h8
                refine ⟨_, rfl, Or.inl ⟨(by simp only [putE, e6, e7, e8]; first | kernel_rfl | rfl), predRun_call (f := 49) (args := #[.slice a5 len5 cap5, .slice a15 k c15]) (by simp only [putE, e6, e7, e8]; go_simp) ?_⟩⟩
                exact (sames_any (.slice a5 len5 cap5) (.slice a15 k c15) len5 k z5 Pw wx hS.2.2.1 hS.2.2.2.1 HNs.out (by omega)).mono fun e w2 ⟨h1, h2⟩ => ⟨_, h1, congrArg Value.bool HC2.out, h2⟩
              · obtain ⟨h6, h9⟩ := h
                have e6 : γ 6 = .bool true := h6
                have e9 : γ 9 = .bool c2 := h9
                refine ⟨_, rfl, Or.inl ⟨rfl, predRun_value (v := .bool c2) (by simp only [putE, e6, e9]; first | rfl | (go_simp; done) | (go_simp; with_reducible rfl) | (go_simp; rfl)) rfl⟩⟩
            · intro γ w9 hS h
              have e10 : γ 10 = .bool c2 := h.2.2.2.2.2.2.2.2.2.2
              have R10 := Kp.mk hS.1
              have YL10 := Kp.mk hS.2.1
              have Yp10 := Kp.mk hS.2.2.1
              have Yv10 := Kp.mk hS.2.2.2.1
              have B10 := Kp.mk hS.2.2.2.2
              simp only [putE, Act.put, List.setIfInBounds_toArray, List.set_cons_zero, List.set_cons_succ]
              rw [e10]
              clear h hS e10
              clear R8 YL8 Yp8 Yv8 B8
              refine wpOps_done ?_
              cases hc2' : c2 with
              | true =>
                go_wp2_with fail
                refine (awake7 w9).mono ?_
                rintro r w8 ⟨rfl, hb⟩
                have BB : Kp (Below A w w8) := ⟨B10.out.trans (hb.mono (Nat.le_of_lt R10.out.lt))⟩
                clear hb
                go_wp2_with fail
                go_ret
                exact ⟨rfl, by rw [← HA.out]; exact BB.out⟩
              | false =>
                have HNE : Kp (¬ (x4 = segL L j ∧ z5 = pathG x0 x1 L k j)) := ⟨fun h => by
                  have h1 := HC2.out
                  rw [hc2'] at h1
                  exact of_decide_eq_false h1 ⟨(checkB_true HCt.out).1, by rw [HPw.out]; exact h.2⟩⟩
                clear hc2'
                go_wp2_with fail
                refine (rheight_pow q k w9 HQ.out (by omega)).mono ?_
                rintro r w1 ⟨rfl, e1⟩
                rw [e1]
                clear e1 w1
                go_wp2_with fail
                have HR0 : Kp ((0 + 1) * 2 ^ k ≤ q) := ⟨by rw [HQ.out]; omega⟩
                refine (rnodeG_any x0 x1 _ q cap L HE.out (by omega) HLn.out.1 HLn.out.2 k 0 0 w9 rfl (by omega) HR0.out YL10.out).mono ?_
                rintro r w11 ⟨v11, rfl, k1, hb⟩
                obtain ⟨a7, n7, c7, rfl, hn7⟩ := k1.slice
                have HN7 := Kp.mk hn7
                have T11 := Kp.mk k1
                have R11 := Kp.mk (R10.out.keep hb)
                have Yp11 := Kp.mk (Yp10.out.keep hb)
                have B11 : Kp (Below A w w11) := ⟨B10.out.trans (hb.mono (Nat.le_of_lt R10.out.lt))⟩
                clear k1 hb hn7 R10 YL10 Yp10 Yv10 B10
                rw [HRt.out]
                obtain ⟨W12, hW12⟩ : ∃ W, W = (w11.alloc z49).setRow w11.heap.size (kv .u8 root).toArray := ⟨_, rfl⟩
                have hb12 : Below w11.heap.size w11 W12 := by rw [hW12]; exact Below.row (more (Below.refl _ _) z49) (Nat.le_refl _) _
                have T12 := Kp.mk (T11.out.keep hb12)
                have R12 := Kp.mk (R11.out.keep hb12)
                have Yp12 := Kp.mk (Yp11.out.keep hb12)
                have B12 : Kp (Below A w W12) := ⟨B11.out.trans (hb12.mono (Nat.le_of_lt R11.out.lt))⟩
                clear hb12 T11 R11 Yp11 B11
                go_wp2_with first
                  | (refine wpList_store_row rfl 32 (.tmp 16) (.tmp 86) rfl w11.heap.size (kv .u8 root).toArray rfl rfl 32 _ (Blk.new w11 z49) (cells49 HRl.out.1) (size50 HRl.out.1) (kv_all _ _) ?_; refine wpl_world (· = W12) hW12.symm ?_; clear hW12; intro W0 e0; rw [e0]; clear e0)
                  | (refine wpList_load_row rfl 32 (.tmp 11) rfl A rfl 32 _ (0, 0) _ R12.out Tryd.underlying32 rfl (cells49 HX4.out) ?_)
                refine (rfold_any x0 x1 j x4 a5 len5 cap5 z5 W12 HE.out HX4.out HB4.out Yp12.out).mono ?_
                rintro r w13 ⟨v13, rfl, k1, -, hb⟩
                obtain ⟨a8, n8, c8, rfl, hn8⟩ := k1.slice
                have HN8 := Kp.mk hn8
                have U13 := Kp.mk k1
                have T13 := Kp.mk (T12.out.keep hb)
                have B13 : Kp (Below A w w13) := ⟨B12.out.trans (hb.mono (Nat.le_of_lt R12.out.lt))⟩
                have HA13 : Kp (A ≤ w13.heap.size) := ⟨by have := hb.size; have := R12.out.lt; omega⟩
                clear k1 hb hn8 T12 R12 Yp12 B12
                have HZl := Kp.mk (foldS_len x0 x1 x4 j z5 len5 HX4.out)
                generalize foldS x0 x1 x4 j z5 len5 = z at HZl ⊢
                obtain ⟨W14, hW14⟩ : ∃ W, W = (w13.alloc z49).setRow w13.heap.size (kv .u8 z).toArray := ⟨_, rfl⟩
                have hb14 : Below w13.heap.size w13 W14 := by rw [hW14]; exact Below.row (more (Below.refl _ _) z49) (Nat.le_refl _) _
                have T14 := Kp.mk (T13.out.keep hb14)
                have U14 := Kp.mk (U13.out.keep hb14)
                have B14 : Kp (Below A w W14) := ⟨B13.out.trans (hb14.mono HA13.out)⟩
                have HA14 : Kp (A ≤ W14.heap.size) := ⟨by have := hb14.size; have := HA13.out; omega⟩
                clear hb14 T13 U13 B13 HA13
                go_wp2_with (refine wpList_store_row rfl 32 (.tmp 18) (.tmp 95) rfl w13.heap.size (kv .u8 z).toArray rfl rfl 32 _ (Blk.new w13 z49) (cells49 HZl.out) (size50 HZl.out) (kv_all _ _) ?_; refine wpl_world (· = W14) hW14.symm ?_; clear hW14; intro W0 e0; rw [e0]; clear e0)
                refine (awake7 W14).mono ?_
                rintro r w15 ⟨rfl, hb⟩
                have T15 := Kp.mk (T14.out.keep hb)
                have U15 := Kp.mk (U14.out.keep hb)
                have B15 : Kp (Below A w w15) := ⟨B14.out.trans (hb.mono HA14.out)⟩
                have HA15 : Kp (A ≤ w15.heap.size) := ⟨by have := hb.size; have := HA14.out; omega⟩
                clear hb T14 U14 B14 HA14
                go_wp2_with fail
                have hcl : ClashP (nodeGT x0 x1 L k 0) (foldT x0 x1 x4 j z5 len5) := checkB_clash HL2.out HX4.out HLb.out.1 HJ.out HCt.out HNE.out
                refine (clash_any a7 n7 c7 _ a8 n8 c8 _ w15 T15.out U15.out (by rw [HN7.out]; exact nodeGT_cons _ _ _ _ _) (by rw [HN8.out]; exact foldT_cons _ _ _ _ _ _ HX4.out) (by rw [HN7.out]; exact nodeGT_small _ _ _ _ _ (by omega)) (by rw [HN8.out]; exact foldT_small _ _ _ _ _ _)).mono ?_
                rintro r w16 ⟨x, rfl, hx, hb⟩
                have hxt : x = true := hx.2 hcl
                subst hxt
                clear hcl hx
                have BB : Kp (Below A w w16) := ⟨B15.out.trans (hb.mono HA15.out)⟩
                clear hb
                go_wp2_with fail
                go_ret
                exact ⟨rfl, by rw [← HA.out]; exact BB.out⟩
          · have HNE : Kp (¬ (x4 = segL L j ∧ z5 = pathG x0 x1 L k j)) := ⟨fun h => hxs (by rw [HSe.out]; exact h.1)⟩
            have HXS := Kp.mk hxs
            clear hxs
            refine wp_region_pred (fun w' => Row w' A 32 .u8 x4 ∧ HoldsS w' (.slice (some ⟨b, off, none⟩) q cap) q L ∧ HoldsS w' (.slice a5 len5 cap5) len5 z5 ∧ HoldsS w' (.slice a15 k c15) k Pw ∧ Below A w w') [0, 1, 2, 3, 4, 5, 6, 7, 8, 9, 10] []
              (fun ι w' v => match ι with
                | 0 => v = dgV x4
                | 1 => v = .slice (some ⟨b, off, none⟩) q cap
                | 2 => v = .int .i64 j
                | 3 => v = .pointer (some ⟨b, off + j * 16, none⟩)
                | 4 => v = dgV s
                | 5 | 6 | 10 => v = .bool false
                | 7 | 8 | 9 => v = undef
                | _ => v = .bool true)
              [[], [], [], [(1, some 67), (2, some 68)], [(3, some 69)], [(0, some 66), (4, some 70)], [(5, some 71)], [(6, some 72)], [(6, some 72)], [(6, some 72), (7, some 73), (8, some 74)], [(6, some 72), (9, some 75)]]
              [(0, some 66), (1, some 67), (2, some 68), (3, some 69), (4, some 70), (5, some 71), (6, some 72), (7, some 73), (8, some 74), (9, some 75), (10, some 76)]
              (by kernel_rfl) (by kernel_rfl) (by kernel_rfl) (by kernel_rfl) (by kernel_rfl) (by kernel_rfl) (by decide) (by decide) (fun w1 w2 h hb => ⟨h.1.keep hb, h.2.1.keep hb, h.2.2.1.keep hb, h.2.2.2.1.keep hb, h.2.2.2.2.trans (hb.mono (Nat.le_of_lt h.1.lt))⟩) ?_ ⟨R8.out.drew, YL8.out.drew, Yp8.out.drew, Yv8.out.drew, B8.out.drew⟩ ?_ ?_
            · intro ι w1 w2 v h hb
              match ι, h with
              | 0, h => exact h
              | 1, h => exact h
              | 2, h => exact h
              | 3, h => exact h
              | 4, h => exact h
              | 5, h => exact h
              | 6, h => exact h
              | 7, h => exact h
              | 8, h => exact h
              | 9, h => exact h
              | 10, h => exact h
              | _ + 11, h => exact h
            · refine ⟨fun γ wx hS h => ?_, fun γ wx hS h => ?_, fun γ wx hS h => ?_, fun γ wx hS h => ?_, fun γ wx hS h => ?_, fun γ wx hS h => ?_, fun γ wx hS h => ?_, fun γ wx hS h => ?_, fun γ wx hS h => ?_, fun γ wx hS h => ?_, fun γ wx hS h => ?_, trivial⟩
              · refine ⟨_, rfl, Or.inl ⟨rfl, predRun_value (exec_load_blk 32 (.tmp 11) rfl (A) rfl 32 _ (0, 0) _ hS.1 Tryd.underlying32 rfl (cells49 HX4.out)) rfl⟩⟩
              · refine ⟨_, rfl, Or.inl ⟨rfl, predRun_value (v := .slice (some ⟨b, off, none⟩) q cap) (by simp only [putE]; first | rfl | (go_simp; done) | (go_simp; with_reducible rfl) | (go_simp; rfl)) rfl⟩⟩
              · refine ⟨_, rfl, Or.inl ⟨rfl, predRun_value (v := .int .i64 j) (by simp only [putE]; first | rfl | (go_simp; done) | (go_simp; with_reducible rfl) | (go_simp; rfl)) rfl⟩⟩
              · obtain ⟨h1, h2⟩ := h
                have e1 : γ 1 = .slice (some ⟨b, off, none⟩) q cap := h1
                have e2 : γ 2 = .int .i64 j := h2
                refine ⟨_, rfl, Or.inl ⟨rfl, predRun_value (exec_idx65 (x := .tmp 67) (y := .tmp 68) (B := b) (o := off) (n := q) (cap := cap) (j := j) rfl (by simp only [putE, e1, e2, Act.put, List.setIfInBounds_toArray, List.set_cons_zero, List.set_cons_succ]; rfl) (by simp only [putE, e1, e2, Act.put, List.setIfInBounds_toArray, List.set_cons_zero, List.set_cons_succ]; rfl) rfl hjq) rfl⟩⟩
              · have h3 := h
                have e3 : γ 3 = .pointer (some ⟨b, off + j * 16, none⟩) := h3
                refine ⟨_, rfl, Or.inl ⟨rfl, predRun_value (exec_load_midS (b := b) (off := off + j * 16) (x := .tmp 69) (cs := kv .u8 s) rfl (by simp only [putE, e3, Act.put, List.setIfInBounds_toArray, List.set_cons_zero, List.set_cons_succ]; rfl) (by rw [HSe.out]; exact hS.2.1.rangeAt hjq) Tryd.underlying32 rfl (cellsL32 HSl.out)) rfl⟩⟩
              · obtain ⟨h0, h4⟩ := h
                have e0 : γ 0 = dgV x4 := h0
                have e4 : γ 4 = dgV s := h4
                refine ⟨_, rfl, Or.inl ⟨rfl, predRun_value (v := .bool false) (by simp only [putE, e0, e4]; have hq : ∀ w, (binOp .eql 32 (dgV x4) (dgV s)).run Tryd.prog w = .ok (.bool false) w := fun w => (by rw [eq32 HB4.out HSb.out HX4.out HSl.out w, decide_eq_false HXS.out]); have hg := eqg32; first | (go_simp; done) | (go_simp; with_reducible rfl)) rfl⟩⟩
              · have h5 := h
                have e5 : γ 5 = .bool false := h5
                refine ⟨_, rfl, Or.inl ⟨rfl, predRun_value (v := .bool false) (by simp only [putE, e5]; first | rfl | (go_simp; done) | (go_simp; with_reducible rfl) | (go_simp; rfl)) rfl⟩⟩
              · have h6 := h
                have e6 : γ 6 = .bool false := h6
                refine ⟨_, rfl, Or.inr ⟨(by simp only [putE, e6]; first | kernel_rfl | rfl), rfl⟩⟩
              · have h6 := h
                have e6 : γ 6 = .bool false := h6
                refine ⟨_, rfl, Or.inr ⟨(by simp only [putE, e6]; first | kernel_rfl | rfl), rfl⟩⟩
              · obtain ⟨h6, h7, h8⟩ := h
                have e6 : γ 6 = .bool false := h6
                have e7 : γ 7 = undef := h7
                have e8 : γ 8 = undef := h8
                refine ⟨_, rfl, Or.inr ⟨(by simp only [putE, e6, e7, e8]; first | kernel_rfl | rfl), rfl⟩⟩
              · obtain ⟨h6, h9⟩ := h
                have e6 : γ 6 = .bool false := h6
                have e9 : γ 9 = undef := h9
                refine ⟨_, rfl, Or.inl ⟨rfl, predRun_value (v := .bool false) (by simp only [putE, e6, e9]; first | rfl | (go_simp; done) | (go_simp; with_reducible rfl) | (go_simp; rfl)) rfl⟩⟩
            · intro γ w9 hS h
              have e10 : γ 10 = .bool false := h.2.2.2.2.2.2.2.2.2.2
              have R10 := Kp.mk hS.1
              have YL10 := Kp.mk hS.2.1
              have Yp10 := Kp.mk hS.2.2.1
              have Yv10 := Kp.mk hS.2.2.2.1
              have B10 := Kp.mk hS.2.2.2.2
              simp only [putE, Act.put, List.setIfInBounds_toArray, List.set_cons_zero, List.set_cons_succ]
              rw [e10]
              clear h hS e10
              clear R8 YL8 Yp8 Yv8 B8
              refine wpOps_done ?_
              go_wp2_with fail
              refine (rheight_pow q k w9 HQ.out (by omega)).mono ?_
              rintro r w1 ⟨rfl, e1⟩
              rw [e1]
              clear e1 w1
              go_wp2_with fail
              have HR0 : Kp ((0 + 1) * 2 ^ k ≤ q) := ⟨by rw [HQ.out]; omega⟩
              refine (rnodeG_any x0 x1 _ q cap L HE.out (by omega) HLn.out.1 HLn.out.2 k 0 0 w9 rfl (by omega) HR0.out YL10.out).mono ?_
              rintro r w11 ⟨v11, rfl, k1, hb⟩
              obtain ⟨a7, n7, c7, rfl, hn7⟩ := k1.slice
              have HN7 := Kp.mk hn7
              have T11 := Kp.mk k1
              have R11 := Kp.mk (R10.out.keep hb)
              have Yp11 := Kp.mk (Yp10.out.keep hb)
              have B11 : Kp (Below A w w11) := ⟨B10.out.trans (hb.mono (Nat.le_of_lt R10.out.lt))⟩
              clear k1 hb hn7 R10 YL10 Yp10 Yv10 B10
              rw [HRt.out]
              obtain ⟨W12, hW12⟩ : ∃ W, W = (w11.alloc z49).setRow w11.heap.size (kv .u8 root).toArray := ⟨_, rfl⟩
              have hb12 : Below w11.heap.size w11 W12 := by rw [hW12]; exact Below.row (more (Below.refl _ _) z49) (Nat.le_refl _) _
              have T12 := Kp.mk (T11.out.keep hb12)
              have R12 := Kp.mk (R11.out.keep hb12)
              have Yp12 := Kp.mk (Yp11.out.keep hb12)
              have B12 : Kp (Below A w W12) := ⟨B11.out.trans (hb12.mono (Nat.le_of_lt R11.out.lt))⟩
              clear hb12 T11 R11 Yp11 B11
              go_wp2_with first
                | (refine wpList_store_row rfl 32 (.tmp 16) (.tmp 86) rfl w11.heap.size (kv .u8 root).toArray rfl rfl 32 _ (Blk.new w11 z49) (cells49 HRl.out.1) (size50 HRl.out.1) (kv_all _ _) ?_; refine wpl_world (· = W12) hW12.symm ?_; clear hW12; intro W0 e0; rw [e0]; clear e0)
                | (refine wpList_load_row rfl 32 (.tmp 11) rfl A rfl 32 _ (0, 0) _ R12.out Tryd.underlying32 rfl (cells49 HX4.out) ?_)
              refine (rfold_any x0 x1 j x4 a5 len5 cap5 z5 W12 HE.out HX4.out HB4.out Yp12.out).mono ?_
              rintro r w13 ⟨v13, rfl, k1, -, hb⟩
              obtain ⟨a8, n8, c8, rfl, hn8⟩ := k1.slice
              have HN8 := Kp.mk hn8
              have U13 := Kp.mk k1
              have T13 := Kp.mk (T12.out.keep hb)
              have B13 : Kp (Below A w w13) := ⟨B12.out.trans (hb.mono (Nat.le_of_lt R12.out.lt))⟩
              have HA13 : Kp (A ≤ w13.heap.size) := ⟨by have := hb.size; have := R12.out.lt; omega⟩
              clear k1 hb hn8 T12 R12 Yp12 B12
              have HZl := Kp.mk (foldS_len x0 x1 x4 j z5 len5 HX4.out)
              generalize foldS x0 x1 x4 j z5 len5 = z at HZl ⊢
              obtain ⟨W14, hW14⟩ : ∃ W, W = (w13.alloc z49).setRow w13.heap.size (kv .u8 z).toArray := ⟨_, rfl⟩
              have hb14 : Below w13.heap.size w13 W14 := by rw [hW14]; exact Below.row (more (Below.refl _ _) z49) (Nat.le_refl _) _
              have T14 := Kp.mk (T13.out.keep hb14)
              have U14 := Kp.mk (U13.out.keep hb14)
              have B14 : Kp (Below A w W14) := ⟨B13.out.trans (hb14.mono HA13.out)⟩
              have HA14 : Kp (A ≤ W14.heap.size) := ⟨by have := hb14.size; have := HA13.out; omega⟩
              clear hb14 T13 U13 B13 HA13
              go_wp2_with (refine wpList_store_row rfl 32 (.tmp 18) (.tmp 95) rfl w13.heap.size (kv .u8 z).toArray rfl rfl 32 _ (Blk.new w13 z49) (cells49 HZl.out) (size50 HZl.out) (kv_all _ _) ?_; refine wpl_world (· = W14) hW14.symm ?_; clear hW14; intro W0 e0; rw [e0]; clear e0)
              refine (awake7 W14).mono ?_
              rintro r w15 ⟨rfl, hb⟩
              have T15 := Kp.mk (T14.out.keep hb)
              have U15 := Kp.mk (U14.out.keep hb)
              have B15 : Kp (Below A w w15) := ⟨B14.out.trans (hb.mono HA14.out)⟩
              have HA15 : Kp (A ≤ w15.heap.size) := ⟨by have := hb.size; have := HA14.out; omega⟩
              clear hb T14 U14 B14 HA14
              go_wp2_with fail
              have hcl : ClashP (nodeGT x0 x1 L k 0) (foldT x0 x1 x4 j z5 len5) := checkB_clash HL2.out HX4.out HLb.out.1 HJ.out HCt.out HNE.out
              refine (clash_any a7 n7 c7 _ a8 n8 c8 _ w15 T15.out U15.out (by rw [HN7.out]; exact nodeGT_cons _ _ _ _ _) (by rw [HN8.out]; exact foldT_cons _ _ _ _ _ _ HX4.out) (by rw [HN7.out]; exact nodeGT_small _ _ _ _ _ (by omega)) (by rw [HN8.out]; exact foldT_small _ _ _ _ _ _)).mono ?_
              rintro r w16 ⟨x, rfl, hx, hb⟩
              have hxt : x = true := hx.2 hcl
              subst hxt
              clear hcl hx
              have BB : Kp (Below A w w16) := ⟨B15.out.trans (hb.mono HA15.out)⟩
              clear hb
              go_wp2_with fail
              go_ret
              exact ⟨rfl, by rw [← HA.out]; exact BB.out⟩
end Go.Proofs.YtahmioiefmheeaaDoor
