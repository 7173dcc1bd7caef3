/-
  The law OtsSound, walked: the message is the signed one.
-/
import Derived.Test.YtpljjmdkagbjpaaDoorOd18
namespace Go.Proofs.YtpljjmdkagbjpaaDoor
open Go.RowKit

set_option maxRecDepth 100000 in
set_option maxHeartbeats 32000000 in
theorem sound_same (s : List Int) (d x : Int) (g m : List Int) (a t : Int) (w : World) (hk : KonIs w) (hs : s.length = 32) (hsb : Bytes s) (hx : 0 ≤ x ∧ x < 4294967296) (hg : g.length = 16) (hgb : Bytes g) (hm : m.length = 16) (hmb : Bytes m) (ht : 0 ≤ t ∧ t ≤ 255) (hmg : m = g) :
    Calls Tryd.prog 6 #[.agg (kv .u8 s).toArray, nameV d x, dgV g, dgV m, .int .i64 a, .int .u8 t] w fun e w' => e = .returned (.bool true) ∧ Below w.heap.size w w' := by
  have HK := Kp.mk hk
  have HX := Kp.mk hx
  have HS := Kp.mk (And.intro hs hsb)
  have HG := Kp.mk (And.intro hg hgb)
  have HM := Kp.mk (And.intro hm hmb)
  have HMG := Kp.mk hmg
  have HT := Kp.mk ht
  have hC := fun (w : World) => box_row (t := 35) (cs := kv .u8 s) (cellsS35 hs) w
  have hC2 := fun (w : World) => box_row (t := 25) (cs := kv .u8 g) (cellsT25 hg) w
  have hC3 := fun (w : World) => box_row (t := 25) (cs := kv .u8 m) (cellsT25 hm) w
  have HC25 := Kp.mk (cellsT25 hm)
  have HC35 := Kp.mk (cellsS35 hs)
  obtain ⟨y, hy⟩ : ∃ y, y = signS s d x m := ⟨_, rfl⟩
  have HYS := Kp.mk hy
  have HYl : Kp (y.length = 1088) := ⟨by rw [hy]; exact signS_len _ _ _ _⟩
  have HYb : Kp (Bytes y) := ⟨by rw [hy]; exact signS_bytes _ _ _ _⟩
  have HC43 := Kp.mk (cells43 HYl.out)
  have HZ43 : Kp ((kv .u8 (List.replicate 1088 0)).toArray.size = (kv .u8 y).toArray.size) := ⟨by rw [kv_size, kv_size, HYl.out, List.length_replicate]⟩
  have HNE : Kp (∀ w, (binOp .neq 25 (dgV m) (dgV g)).run Tryd.prog w = .ok (.bool false) w) := ⟨fun w => by rw [nq25 hmb hgb hm hg w, decide_eq_true hmg]; rfl⟩
  clear hk hs hsb hx hg hgb hm hmb hmg ht hy
  go_enter Tryd.func6, Tryd.ntmps6
  go_wp2_with (first
    | (refine wpList_box_eq rfl 35 (.tmp 0) rfl _ rfl _ _ (hC _) ?_)
    | (refine wpList_box_eq rfl 25 (.tmp 2) rfl _ rfl _ _ (hC2 _) ?_)
    | (refine wpList_box_eq rfl 25 (.tmp 3) rfl _ rfl _ _ (hC3 _) ?_)
    | (refine wpList_load_row rfl 35 (.tmp 6) rfl w.heap.size rfl 35 (kv .u8 s).toArray (0, 0) _ (Blk.old (Blk.old (Blk.old (Blk.newAt _ rfl) _) _) _) Tryd.underlying35 rfl HC35.out ?_)
    | (refine wpList_load_row rfl 24 (.tmp 7) rfl (w.heap.size + 1) rfl 24 _ (0, 0) _ (Blk.old (Blk.old (Blk.newAt _ (by simp)) _) _) Tryd.underlying24 rfl (cellsN24 d x) ?_)
    | (refine wpList_load_row rfl 25 (.tmp 9) rfl (w.heap.size + 1 + 1 + 1) rfl 25 (kv .u8 m).toArray (0, 0) _ (Blk.newAt _ (by simp)) Tryd.underlying25 rfl HC25.out ?_))
  obtain ⟨A, hA⟩ : ∃ A, A = w.heap.size := ⟨_, rfl⟩
  have HA := Kp.mk hA
  rw [← hA]
  refine calls_world (fun W => Row W A 35 .u8 s ∧ Blk W (A + 1) (.cells #[.int .i64 d, .int .u32 x] 24) ∧ Row W (A + 2) 25 .u8 g ∧ Row W (A + 3) 25 .u8 m ∧ Below A w W) ⟨?_, ?_, ?_, ?_, ?_⟩ ?_
  · exact Blk.old (Blk.old (Blk.old (Blk.newAt _ hA) _) _) _
  · exact Blk.old (Blk.old (Blk.newAt _ (by simp [hA])) _) _
  · exact Blk.old (Blk.newAt _ (by simp [hA])) _
  · exact Blk.newAt _ (by simp [hA])
  · rw [hA]; exact more (more (more (more (Below.refl _ _) _) _) _) _
  rw [show A + 1 + 1 + 1 = A + 3 from rfl, show A + 1 + 1 = A + 2 from rfl]
  clear hA hC hC2 hC3
  rintro W ⟨h1, h2, h3, h6, h4⟩
  refine (rsign_any s d x m W HX.out HS.out.1 HS.out.2 HM.out.1 HM.out.2).mono ?_
  rintro r w1 ⟨rfl, hb⟩
  rw [← HYS.out]
  obtain ⟨D, hD⟩ : ∃ D, D = w1.heap.size := ⟨_, rfl⟩
  have HDe := Kp.mk hD
  have G1 := Kp.mk (h1.keep hb)
  have G2 := Kp.mk (Blk.keep h2 hb)
  have G3 := Kp.mk (h3.keep hb)
  have G6 := Kp.mk (h6.keep hb)
  have G4 : Kp (Below A w w1) := ⟨h4.trans (hb.mono (Nat.le_of_lt h1.lt))⟩
  have hAD : A + 3 < D := by rw [hD]; exact G6.out.lt
  clear h1 h2 h3 h4 h6 hb hD
  have hng := ng25 m g
  have hnq := HNE.out
  go_wp2_with (first
    | (refine wpList_alloc_row rfl 43 rfl _ _ infoz43 ?_; rw [← HDe.out]; refine wpl_world (fun w2 => Row w2 D 43 .u8 (List.replicate 1088 0) ∧ Row w2 A 35 .u8 s ∧ Blk w2 (A + 1) (.cells #[.int .i64 d, .int .u32 x] 24) ∧ Row w2 (A + 2) 25 .u8 g ∧ Row w2 (A + 3) 25 .u8 m ∧ Below A w w2) ⟨Blk.newAt _ HDe.out, G1.out.alloc _, G2.out.old _, G3.out.alloc _, G6.out.alloc _, G4.out.alloc (by have := G1.out.lt; omega) _⟩ ?_; rintro W2 ⟨h0, h1, h2, h3, h6, h4⟩; have K0 := Kp.mk h0; have K1 := Kp.mk h1; have K2 := Kp.mk h2; have K3 := Kp.mk h3; have K6 := Kp.mk h6; have K4 := Kp.mk h4; clear h0 h1 h2 h3 h4 h6)
    | (refine wpList_store_row rfl 43 (.tmp 13) (.tmp 25) rfl D (kv .u8 y).toArray rfl rfl 43 _ K0.out HC43.out HZ43.out (kv_all _ _) ?_; refine wpl_world (fun w2 => Row w2 D 43 .u8 y ∧ Row w2 A 35 .u8 s ∧ Blk w2 (A + 1) (.cells #[.int .i64 d, .int .u32 x] 24) ∧ Row w2 (A + 2) 25 .u8 g ∧ Row w2 (A + 3) 25 .u8 m ∧ Below A w w2) ⟨K0.out.setRow y, Row.otherRow K1.out (by omega) _, (setRow_other W2 D (A + 1) _ (by omega)).trans K2.out, Row.otherRow K3.out (by omega) _, Row.otherRow K6.out (by omega) _, Below.row K4.out (by omega) _⟩ ?_; rintro W3 ⟨h0, h1, h2, h3, h6, h4⟩; have Z5 := Kp.mk h0; have Z1 := Kp.mk h1; have Z2 := Kp.mk h2; have Z3 := Kp.mk h3; have Z6 := Kp.mk h6; have Z4 := Kp.mk h4; clear h0 h1 h2 h3 h4 h6 K0 K1 K2 K3 K4 K6)
    | (refine wpList_load_row rfl 25 (.tmp 9) rfl (A + 3) rfl 25 (kv .u8 m).toArray (0, 0) _ Z6.out Tryd.underlying25 rfl (cellsT25 HM.out.1) ?_)
    | (refine wpList_load_row rfl 25 (.tmp 8) rfl (A + 2) rfl 25 (kv .u8 g).toArray (0, 0) _ Z3.out Tryd.underlying25 rfl (cellsT25 HG.out.1) ?_))
  clear G1 G2 G3 G4 G6 HDe
  clear hng hnq
  have hu0 := wrap_u64_nonneg a
  obtain ⟨u, hu2⟩ : ∃ u : Nat, IntKind.u64.wrap a = u := ⟨(IntKind.u64.wrap a).toNat, by omega⟩
  obtain ⟨c, hc⟩ : ∃ c, c = u % 68 := ⟨_, rfl⟩
  have hc67 : c ≤ 67 := by omega
  have hmod1 : (u : Int).tmod 68 = (c : Int) := by rw [hc, Int.tmod_eq_emod_of_nonneg (by omega)]; rfl
  have hmod2 : (u : Int) % 68 = (c : Int) := by omega
  have HMX : Kp (wrap64 ((IntKind.u64.wrap a).tmod 68) = (c : Int)) := ⟨by rw [hu2, hmod1]; unfold wrap64; omega⟩
  have hc68 : (c : Int) < 68 := by omega
  clear hc
  go_wp2_with fail
  clear hmod1 hmod2 hu0 hu2
  obtain ⟨r, hr⟩ : ∃ r, r = c % 16 := ⟨_, rfl⟩
  have hr15 : r ≤ 15 := by omega
  have hr16 : (r : Int) < 16 := by omega
  have HR1 : Kp ((c : Int).tmod 16 = (r : Int)) := ⟨by rw [hr, Int.tmod_eq_emod_of_nonneg (by omega)]; rfl⟩
  have HR2 : Kp ((c : Int) % 16 = (r : Int)) := ⟨by omega⟩
  obtain ⟨i, hi⟩ : ∃ i, i = c * 16 + r := ⟨_, rfl⟩
  have HI : Kp (i = c * 16 + r) := ⟨hi⟩
  have hi1 : i < 1088 := by omega
  obtain ⟨v0, hv0⟩ : ∃ v, v = y.getD i 0 := ⟨_, rfl⟩
  have HV0 := Kp.mk hv0
  have HV0r : Kp (0 ≤ v0 ∧ v0 ≤ 255) := ⟨by rw [hv0]; exact HYb.out.at (by rw [HYl.out]; exact hi1)⟩
  obtain ⟨v1, hv1⟩ : ∃ v, v = bits .xor .u8 v0 t := ⟨_, rfl⟩
  have HV1 := Kp.mk hv1
  obtain ⟨y1, hy1⟩ : ∃ z, z = y.set i v1 := ⟨_, rfl⟩
  have HY1 := Kp.mk hy1
  have HY1l : Kp (y1.length = 1088) := ⟨by rw [hy1, List.length_set]; exact HYl.out⟩
  have HY1b : Kp (Bytes y1) := ⟨by rw [hy1]; exact HYb.out.setB (by rw [hv1]; exact xor_range _ _) i⟩
  have HT0 : Kp (t = 0 → y1 = signS s d x m) := ⟨fun e => by rw [hy1, hv1, e, xor_zero HV0r.out, hv0, set_same hi1 HYl.out]; exact HYS.out⟩
  clear hv0 hv1 hy1 hr hi
  refine wp_region_predQ (fun w' => Row w' A 35 .u8 s ∧ Blk w' (A + 1) (.cells #[.int .i64 d, .int .u32 x] 24) ∧ Row w' (A + 2) 25 .u8 g ∧ Row w' (A + 3) 25 .u8 m ∧ Row w' D 43 .u8 y ∧ Below A w w') [0, 1, 2, 3, 4, 5, 6, 7, 8, 9] [8] [10]
    (fun ι w' v => match ι with
      | 0 | 1 => v = .int .i64 c
      | 2 => v = .int .i64 r
      | 3 | 8 => v = .pointer (some ⟨D, c * 16, none⟩)
      | 4 | 9 => v = .pointer (some ⟨D, c * 16 + r, none⟩)
      | 5 => v = .int .u8 v0
      | 6 => v = .int .u8 t
      | 7 => v = .int .u8 v1
      | _ => v = .bool true)
    [[], [], [(1, some 72)], [(0, some 71)], [(2, some 73), (3, some 74)], [(4, some 75)], [], [(5, some 76), (6, some 77)], [(0, some 71)], [(0, some 71), (1, some 72), (2, some 73), (3, some 74), (4, some 75), (5, some 76), (6, some 77), (7, some 78), (8, some 79)]]
    [[(0, some 71)]]
    [(0, some 71), (1, some 72), (2, some 73), (3, some 74), (4, some 75), (5, some 76), (6, some 77), (7, some 78), (8, some 79), (9, some 80)]
    (by kernel_rfl) (by kernel_rfl) (by kernel_rfl) (by kernel_rfl) (by kernel_rfl) (by kernel_rfl) (by kernel_rfl) (by decide) (by decide) (fun w1 w2 h hb => ⟨h.1.keep hb, h.2.1.keep hb, h.2.2.1.keep hb, h.2.2.2.1.keep hb, h.2.2.2.2.1.keep hb, h.2.2.2.2.2.trans (hb.mono (Nat.le_of_lt h.1.lt))⟩) (fun c a w d v h => by cases d <;> exact h) ?_ ⟨Z1.out.drew, Z2.out.draw, Z3.out.drew, Z6.out.drew, Z5.out.drew, Z4.out.drew⟩ ?_ ?_ ?_
  · intro ι w1 w2 v h hb
    match ι, h with
    | 0, h => exact h
    | 1, h => exact h
    | 2, h => exact h
    | 3, h => exact h
    | 4, h => exact h
    | 5, h => exact h
    | 6, h => exact h
    | 7, h => exact h
    | 8, h => exact h
    | 9, h => exact h
    | _ + 10, h => exact h
  · refine ⟨fun γ wx hS h => ?_, fun γ wx hS h => ?_, fun γ wx hS h => ?_, fun γ wx hS h => ?_, fun γ wx hS h => ?_, fun γ wx hS h => ?_, fun γ wx hS h => ?_, fun γ wx hS h => ?_, fun γ wx hS h => ?_, fun γ wx hS h => ?_, trivial⟩
    · refine ⟨_, rfl, Or.inl ⟨rfl, predRun_value (v := .int .i64 c) (by simp only [putE]; first | rfl | (go_simp; done) | (go_simp; exact HMX.out)) rfl⟩⟩
    · refine ⟨_, rfl, Or.inl ⟨rfl, predRun_value (v := .int .i64 c) (by simp only [putE]; first | rfl | (go_simp; done) | (go_simp; exact HMX.out)) rfl⟩⟩
    · have h1 := h
      have e1 : γ 1 = .int .i64 c := h1
      refine ⟨_, rfl, Or.inl ⟨rfl, predRun_value (v := .int .i64 r) (by simp only [putE, e1]; have h1 := HR1.out; have h2 := HR2.out; first | rfl | (go_simp; done) | (go_simp; with_reducible rfl) | (go_simp; rfl)) rfl⟩⟩
    · have h0 := h
      have e0 : γ 0 = .int .i64 c := h0
      refine ⟨_, rfl, ?_⟩
      refine predOp_val (v := .pointer (some ⟨D, c * 16, none⟩)) ?_ ?_ ?_
      · kernel_rfl
      · simp only [putE, e0]
        go_simp
      · rfl
    · obtain ⟨h2, h3⟩ := h
      have e2 : γ 2 = .int .i64 r := h2
      have e3 : γ 3 = .pointer (some ⟨D, c * 16, none⟩) := h3
      refine ⟨_, rfl, ?_⟩
      refine predOp_val (v := .pointer (some ⟨D, c * 16 + r, none⟩)) ?_ ?_ ?_
      · kernel_rfl
      · simp only [putE, e2, e3]
        go_simp
      · rfl
    · have h4 := h
      have e4 : γ 4 = .pointer (some ⟨D, c * 16 + r, none⟩) := h4
      have hcell := hS.2.2.2.2.1.cell (i := i) (by rw [HYl.out]; exact hi1)
      rw [← HV0.out, HI.out] at hcell
      refine ⟨_, rfl, ?_⟩
      refine predOp_val (v := .int .u8 v0) ?_ ?_ ?_
      · kernel_rfl
      · simp only [putE, e4]
        go_simp
      · rfl
    · refine ⟨_, rfl, Or.inl ⟨rfl, predRun_value (v := .int .u8 t) (by simp only [putE]; first | rfl | (go_simp; done) | (go_simp; with_reducible rfl) | (go_simp; rfl)) rfl⟩⟩
    · obtain ⟨h5, h6⟩ := h
      have e5 : γ 5 = .int .u8 v0 := h5
      have e6 : γ 6 = .int .u8 t := h6
      refine ⟨_, rfl, ?_⟩
      refine predOp_val (v := .int .u8 v1) ?_ ?_ ?_
      · kernel_rfl
      · rw [HV1.out]
        simp only [putE, e5, e6]
        go_simp
      · rfl
    · have h0 := h
      have e0 : γ 0 = .int .i64 c := h0
      refine ⟨_, rfl, ?_⟩
      refine predOp_val (v := .pointer (some ⟨D, c * 16, none⟩)) ?_ ?_ ?_
      · kernel_rfl
      · simp only [putE, e0]
        go_simp
      · rfl
    · obtain ⟨h0, h1, h2, h3, h4, h5, h6, h7, h8⟩ := h
      have e0 : γ 0 = .int .i64 c := h0
      have e1 : γ 1 = .int .i64 c := h1
      have e2 : γ 2 = .int .i64 r := h2
      have e3 : γ 3 = .pointer (some ⟨D, c * 16, none⟩) := h3
      have e4 : γ 4 = .pointer (some ⟨D, c * 16 + r, none⟩) := h4
      have e5 : γ 5 = .int .u8 v0 := h5
      have e6 : γ 6 = .int .u8 t := h6
      have e7 : γ 7 = .int .u8 v1 := h7
      have e8 : γ 8 = .pointer (some ⟨D, c * 16, none⟩) := h8
      refine ⟨_, rfl, ?_⟩
      refine predOp_val (v := .pointer (some ⟨D, c * 16 + r, none⟩)) ?_ ?_ ?_
      · kernel_rfl
      · simp only [putE, e0, e1, e2, e3, e4, e5, e6, e7, e8]
        go_simp
      · rfl
  · refine ⟨fun γ wx hS h => ?_, trivial⟩
    · have h0 := h
      have e0 : γ 0 = .int .i64 c := h0
      refine ⟨_, .pointer (some ⟨D, c * 16, none⟩), rfl, Or.inl ⟨rfl, fun wz => by simp only [putE, e0]; go_simp⟩, rfl⟩
  · intro γ w9 hS h
    have e9 : γ 9 = .pointer (some ⟨D, c * 16 + r, none⟩) := h.2.2.2.2.2.2.2.2.2
    have e7 : γ 7 = .int .u8 v1 := h.2.2.2.2.2.2.2.1
    simp only [putE, Act.put, List.setIfInBounds_toArray, List.set_cons_zero, List.set_cons_succ]
    rw [e9, e7]
    rw [← HI.out]
    have hcell := hS.2.2.2.2.1.cell (i := i) (by rw [HYl.out]; exact hi1)
    have hfro := hS.2.2.2.2.1.frozen i
    obtain ⟨W9, hW9⟩ : ∃ W9, W9 = w9.setCell ⟨D, i, none⟩ (.int .u8 v1) := ⟨_, rfl⟩
    have E1 : Kp (Row W9 A 35 .u8 s) := ⟨by rw [hW9]; exact Row.other hS.1 (p := ⟨D, i, none⟩) (by show D ≠ A; omega) _⟩
    have E2 : Kp (Blk W9 (A + 1) (.cells #[.int .i64 d, .int .u32 x] 24)) := ⟨by rw [hW9]; exact Blk.setOther hS.2.1 (p := ⟨D, i, none⟩) (by show D ≠ A + 1; omega) _⟩
    have E3 : Kp (Row W9 (A + 2) 25 .u8 g) := ⟨by rw [hW9]; exact Row.other hS.2.2.1 (p := ⟨D, i, none⟩) (by show D ≠ A + 2; omega) _⟩
    have E6 : Kp (Row W9 (A + 3) 25 .u8 m) := ⟨by rw [hW9]; exact Row.other hS.2.2.2.1 (p := ⟨D, i, none⟩) (by show D ≠ A + 3; omega) _⟩
    have E5 : Kp (Row W9 D 43 .u8 y1) := ⟨by rw [hW9, HY1.out]; exact Row.set hS.2.2.2.2.1 i v1⟩
    have E4 : Kp (Below A w W9) := ⟨by rw [hW9]; exact hS.2.2.2.2.2.setCell (by show A ≤ D; omega) _⟩
    have HWk := Kp.mk hW9
    clear h hS e9 e7 hW9 Z1 Z2 Z3 Z4 Z5 Z6 HR1 HR2
    refine wpOps_step rfl rfl ?_
    refine wp_store_one rfl 5 (.tmp 80) (.tmp 78) rfl D i (.int .u8 v1) rfl rfl (by go_simp) ?_
    rw [← HWk.out]
    clear HWk hcell hfro
    refine wpOps_done ?_
    obtain ⟨q0, hq⟩ : ∃ q, q = shortL (wholeT d x (topS s d x)) := ⟨_, rfl⟩
    have HQ := Kp.mk hq
    have HQl : Kp (q0.length = 16) := ⟨by rw [hq]; exact shortL_len _⟩
    have HQb : Kp (Bytes q0) := ⟨by rw [hq]; exact shortL_bytes _⟩
    have HCq25 := Kp.mk (cellsT25 HQl.out)
    have HZq := Kp.mk (size50 HQl.out)
    clear hq HYl HYb HV0 HV0r HV1 HY1 HI hi1
    generalize hy : y1 = y at *
    clear hy
    go_wp2_with (first
      | (refine wpList_load_row rfl 35 (.tmp 6) rfl A rfl 35 (kv .u8 s).toArray (0, 0) _ E1.out Tryd.underlying35 rfl (cellsS35 HS.out.1) ?_)
      | (refine wpList_load_row rfl 24 (.tmp 7) rfl (A + 1) rfl 24 _ (0, 0) _ E2.out Tryd.underlying24 rfl (cellsN24 d x) ?_))
    obtain ⟨K, hK0⟩ : ∃ K, K = W9.heap.size := ⟨_, rfl⟩
    have HK0 := Kp.mk hK0
    have hDK : D < K := by rw [hK0]; exact E5.out.lt
    clear hK0
    refine (rpublic_any s d x W9 HX.out HS.out.1 HS.out.2).mono ?_
    rintro q w1 ⟨v1, rfl, hT, hb⟩
    rw [← HQ.out]
    rw [← HK0.out] at hT
    obtain ⟨us, hus⟩ : ∃ us, us = pubTL s d x 68 ++ [wholeT d x (topS s d x)] := ⟨_, rfl⟩
    rw [← hus] at hT
    have HUS := Kp.mk hus
    have HUH : Kp (Heads us) := ⟨by rw [hus]; exact (pubTL_heads s d x 68).append (Heads.one (by decide))⟩
    obtain ⟨E, hE⟩ : ∃ E, E = w1.heap.size := ⟨_, rfl⟩
    have HEe := Kp.mk hE
    have C1 := Kp.mk (E1.out.keep hb)
    have C2 := Kp.mk (Blk.keep E2.out hb)
    have C3 := Kp.mk (E3.out.keep hb)
    have C6 := Kp.mk (E6.out.keep hb)
    have C5 := Kp.mk (E5.out.keep hb)
    have C4 : Kp (Below A w w1) := ⟨E4.out.trans (hb.mono (by have := E1.out.lt; omega))⟩
    have CT := Kp.mk (hT.below (more (Below.refl _ _) z16r))
    have hDE : D < E := by rw [hE]; exact C5.out.lt
    obtain ⟨V, hV⟩ : ∃ V, V = (w1.alloc z16r).setRow E (kv .u8 q0).toArray := ⟨_, rfl⟩
    have F1 : Kp (Row V A 35 .u8 s) := ⟨by rw [hV]; exact Row.otherRow (Row.alloc C1.out _) (by omega) _⟩
    have F2 : Kp (Blk V (A + 1) (.cells #[.int .i64 d, .int .u32 x] 24)) := ⟨by rw [hV]; exact (setRow_other _ E (A + 1) _ (by omega)).trans (Blk.old C2.out _)⟩
    have F3 : Kp (Row V (A + 2) 25 .u8 g) := ⟨by rw [hV]; exact Row.otherRow (Row.alloc C3.out _) (by omega) _⟩
    have F6 : Kp (Row V (A + 3) 25 .u8 m) := ⟨by rw [hV]; exact Row.otherRow (Row.alloc C6.out _) (by omega) _⟩
    have F5 : Kp (Row V D 43 .u8 y) := ⟨by rw [hV]; exact Row.otherRow (Row.alloc C5.out _) (by omega) _⟩
    have FE : Kp (Row V E 25 .u8 q0) := ⟨by rw [hV]; exact Row.setRow (k := .u8) (l := fill 16 []) (Blk.newAt z16r hE) _⟩
    have FT : Kp (TextsO V K v1 us) := ⟨by rw [hV]; exact CT.out.zero (Blk.newAt z16r hE) HUH.out _⟩
    have F4 : Kp (Below A w V) := ⟨by rw [hV]; exact Below.row (C4.out.alloc (by have := C1.out.lt; omega) _) (by omega) _⟩
    have HV := Kp.mk hV.symm
    clear hb hT hV hE hus C1 C2 C3 C4 C5 C6 CT E1 E2 E3 E4 E5 E6
    go_wp2_with (rw [← HEe.out]; refine wpList_store_row rfl 25 (.tmp 18) (.tmp 85) rfl E (kv .u8 q0).toArray rfl rfl 25 _ (Blk.newAt z16r HEe.out) HCq25.out HZq.out (kv_all _ _) ?_; refine wpl_world (· = V) HV.out ?_; clear HV; intro W0 e0; rw [e0]; clear e0)
    clear HEe
    obtain ⟨q1, hq1⟩ : ∃ q, q = shortL (wholeT d x (recL d x m y 68)) := ⟨_, rfl⟩
    have HQ1 : Kp (shortL (wholeT d x (recL d x m y 68)) = q1) := ⟨hq1.symm⟩
    have HQ1l : Kp (q1.length = 16) := ⟨by rw [hq1]; exact shortL_len _⟩
    have HQ1b : Kp (Bytes q1) := ⟨by rw [hq1]; exact shortL_bytes _⟩
    clear hq1
    by_cases hqq : q1 = q0
    · have HQE := Kp.mk hqq
      have HNQ : Kp (∀ w, (binOp .neq 27 (dgV q1) (dgV q0)).run Tryd.prog w = .ok (.bool false) w) := ⟨fun w => by rw [neq27 HQ1b.out HQb.out HQ1l.out HQl.out w, decide_eq_true hqq]; rfl⟩
      clear hqq
      refine wp_region_pred (fun w' => Row w' A 35 .u8 s ∧ Blk w' (A + 1) (.cells #[.int .i64 d, .int .u32 x] 24) ∧ Row w' (A + 2) 25 .u8 g ∧ Row w' (A + 3) 25 .u8 m ∧ Row w' D 43 .u8 y ∧ Row w' E 25 .u8 q0 ∧ TextsO w' K v1 us ∧ Below A w w') [0, 1, 2, 3, 4, 5, 6, 7] []
        (fun ι w' v => match ι with
          | 0 | 1 => v = nameV d x
          | 2 => v = dgV m
          | 3 | 4 => v = .agg (kv .u8 y).toArray
          | 5 => v = dgV q1
          | 6 => v = dgV q0
          | 7 => v = .bool false
          | _ => v = .bool true)
        [[], [(0, some 87)], [], [], [(1, some 88), (3, some 90)], [(1, some 88), (2, some 89), (4, some 91)], [], [(5, some 92), (6, some 93)]]
        [(0, some 87), (1, some 88), (2, some 89), (3, some 90), (4, some 91), (5, some 92), (6, some 93), (7, some 94)]
        (by kernel_rfl) (by kernel_rfl) (by kernel_rfl) (by kernel_rfl) (by kernel_rfl) (by kernel_rfl) (by decide) (by decide) (fun w1 w2 h hb => ⟨h.1.keep hb, h.2.1.keep hb, h.2.2.1.keep hb, h.2.2.2.1.keep hb, h.2.2.2.2.1.keep hb, h.2.2.2.2.2.1.keep hb, h.2.2.2.2.2.2.1.below hb, h.2.2.2.2.2.2.2.trans (hb.mono (Nat.le_of_lt h.1.lt))⟩) ?_ ⟨F1.out.drew, F2.out.draw, F3.out.drew, F6.out.drew, F5.out.drew, FE.out.drew, FT.out.drew, F4.out.drew⟩ ?_ ?_
      · intro ι w1 w2 v h hb
        match ι, h with
        | 0, h => exact h
        | 1, h => exact h
        | 2, h => exact h
        | 3, h => exact h
        | 4, h => exact h
        | 5, h => exact h
        | 6, h => exact h
        | 7, h => exact h
        | _ + 8, h => exact h
      · refine ⟨fun γ wx hS h => ?_, fun γ wx hS h => ?_, fun γ wx hS h => ?_, fun γ wx hS h => ?_, fun γ wx hS h => ?_, fun γ wx hS h => ?_, fun γ wx hS h => ?_, fun γ wx hS h => ?_, trivial⟩
        · refine ⟨_, rfl, Or.inl ⟨rfl, predRun_value (exec_load_blk 24 (.tmp 7) rfl (A + 1) rfl 24 _ (0, 0) _ hS.2.1 Tryd.underlying24 rfl (cellsN24 d x)) rfl⟩⟩
        · have h0 := h
          have e0 : γ 0 = nameV d x := h0
          refine ⟨_, rfl, Or.inl ⟨rfl, predRun_call (f := 10) (args := #[nameV d x]) (by simp only [putE, e0]; go_simp) ?_⟩⟩
          exact (to_any d x wx).mono fun e w2 ⟨h1, h2⟩ => ⟨_, h1, rfl, h2⟩
        · refine ⟨_, rfl, Or.inl ⟨rfl, predRun_value (exec_load_blk 25 (.tmp 9) rfl (A + 3) rfl 25 _ (0, 0) _ hS.2.2.2.1 Tryd.underlying25 rfl (cellsT25 HM.out.1)) rfl⟩⟩
        · refine ⟨_, rfl, Or.inl ⟨rfl, predRun_value (exec_load_blk 43 (.tmp 13) rfl (D) rfl 43 _ (0, 0) _ hS.2.2.2.2.1 Tryd.underlying43 rfl (cellsT43 HY1l.out)) rfl⟩⟩
        · obtain ⟨h1, h3⟩ := h
          have e1 : γ 1 = nameV d x := h1
          have e3 : γ 3 = .agg (kv .u8 y).toArray := h3
          refine ⟨_, rfl, Or.inl ⟨rfl, predRun_call (f := 20) (args := #[.agg (kv .u8 y).toArray]) (by simp only [putE, e1, e3]; go_simp) ?_⟩⟩
          exact (toSig_any y wx HY1l.out HY1b.out).mono fun e w2 ⟨h1, h2⟩ => ⟨_, h1, rfl, h2⟩
        · obtain ⟨h1, h2, h4⟩ := h
          have e1 : γ 1 = nameV d x := h1
          have e2 : γ 2 = dgV m := h2
          have e4 : γ 4 = .agg (kv .u8 y).toArray := h4
          refine ⟨_, rfl, Or.inl ⟨rfl, predRun_call (f := 18) (args := #[nameV d x, dgV m, .agg (kv .u8 y).toArray]) (by simp only [putE, e1, e2, e4]; go_simp) ?_⟩⟩
          exact (recover_any d x m y wx (HK.out.keep (by rw [← HA.out]; exact hS.2.2.2.2.2.2.2)) HX.out HM.out.1 HM.out.2 HY1l.out HY1b.out).mono fun e w2 ⟨h1, h2⟩ => ⟨_, h1, (show dgV (shortL (wholeT d x (recL d x m y 68))) = dgV q1 by rw [HQ1.out]), h2⟩
        · refine ⟨_, rfl, Or.inl ⟨rfl, predRun_value (exec_load_blk 25 (.tmp 18) rfl (E) rfl 25 _ (0, 0) _ hS.2.2.2.2.2.1 Tryd.underlying25 rfl (cellsT25 HQl.out)) rfl⟩⟩
        · obtain ⟨h5, h6⟩ := h
          have e5 : γ 5 = dgV q1 := h5
          have e6 : γ 6 = dgV q0 := h6
          refine ⟨_, rfl, Or.inl ⟨rfl, predRun_value (v := .bool false) (by simp only [putE, e5, e6]; have hg := neg27 q1 q0; have he := HNQ.out; first | rfl | (go_simp; done) | (go_simp; with_reducible rfl) | (go_simp; rfl)) rfl⟩⟩
      · intro γ w9 hS h
        have e7 : γ 7 = .bool false := h.2.2.2.2.2.2.2
        have HB9 := Kp.mk hS
        simp only [putE, Act.put, List.setIfInBounds_toArray, List.set_cons_zero, List.set_cons_succ]
        rw [e7]
        clear h hS e7 F1 F2 F3 F4 F5 F6 FE FT
        refine wpOps_done ?_
        have M1 := Kp.mk HB9.out.1
        have M2 := Kp.mk HB9.out.2.1
        have M3 := Kp.mk HB9.out.2.2.1
        have M6 := Kp.mk HB9.out.2.2.2.1
        have M5 := Kp.mk HB9.out.2.2.2.2.1
        have MT := Kp.mk HB9.out.2.2.2.2.2.2.1
        have M4 := Kp.mk HB9.out.2.2.2.2.2.2.2
        clear HB9
        go_wp2_with (first
          | (refine wpList_load_row rfl 24 (.tmp 7) rfl (A + 1) rfl 24 _ (0, 0) _ M2.out Tryd.underlying24 rfl (cellsN24 d x) ?_)
          | (refine wpList_load_row rfl 25 (.tmp 9) rfl (A + 3) rfl 25 (kv .u8 m).toArray (0, 0) _ M6.out Tryd.underlying25 rfl (cellsT25 HM.out.1) ?_)
          | (refine wpList_load_row rfl 43 (.tmp 13) rfl D rfl 43 (kv .u8 y).toArray (0, 0) _ M5.out Tryd.underlying43 rfl (cellsT43 HY1l.out) ?_))
        refine (rrecover_any d x m y w9 HX.out HM.out.1 HM.out.2 HY1l.out HY1b.out).mono ?_
        rintro qq w6 ⟨v2, rfl, hT, hb⟩
        rw [HQ1.out]
        obtain ⟨L, hL⟩ : ∃ L, L = w9.heap.size := ⟨_, rfl⟩
        rw [← hL] at hT
        obtain ⟨bs, hbs⟩ : ∃ bs, bs = recTL d x m y 68 ++ [wholeT d x (recL d x m y 68)] := ⟨_, rfl⟩
        rw [← hbs] at hT
        have HBS := Kp.mk hbs
        have HBH : Kp (Heads bs) := ⟨by rw [hbs]; exact (recTL_heads d x m y 68).append (Heads.one (by decide))⟩
        obtain ⟨F, hF⟩ : ∃ F, F = w6.heap.size := ⟨_, rfl⟩
        have HFe := Kp.mk hF
        have HCq1 := Kp.mk (cellsT25 HQ1l.out)
        have HZq1 := Kp.mk (size50 HQ1l.out)
        have C1 := Kp.mk (M1.out.keep hb)
        have C2 := Kp.mk (Blk.keep M2.out hb)
        have C3 := Kp.mk (M3.out.keep hb)
        have C6 := Kp.mk (M6.out.keep hb)
        have C5 := Kp.mk (M5.out.keep hb)
        have C4 : Kp (Below A w w6) := ⟨M4.out.trans (hb.mono (by have := M1.out.lt; omega))⟩
        have CT := Kp.mk ((MT.out.below hb).below (more (Below.refl _ _) z16r))
        have CU := Kp.mk (hT.below (more (Below.refl _ _) z16r))
        have hDF : D < F := by rw [hF]; exact C5.out.lt
        obtain ⟨V2, hV2⟩ : ∃ V2, V2 = (w6.alloc z16r).setRow F (kv .u8 q1).toArray := ⟨_, rfl⟩
        have N1 : Kp (Row V2 A 35 .u8 s) := ⟨by rw [hV2]; exact Row.otherRow (Row.alloc C1.out _) (by omega) _⟩
        have N2 : Kp (Blk V2 (A + 1) (.cells #[.int .i64 d, .int .u32 x] 24)) := ⟨by rw [hV2]; exact (setRow_other _ F (A + 1) _ (by omega)).trans (Blk.old C2.out _)⟩
        have N3 : Kp (Row V2 (A + 2) 25 .u8 g) := ⟨by rw [hV2]; exact Row.otherRow (Row.alloc C3.out _) (by omega) _⟩
        have N6 : Kp (Row V2 (A + 3) 25 .u8 m) := ⟨by rw [hV2]; exact Row.otherRow (Row.alloc C6.out _) (by omega) _⟩
        have N5 : Kp (Row V2 D 43 .u8 y) := ⟨by rw [hV2]; exact Row.otherRow (Row.alloc C5.out _) (by omega) _⟩
        have NT : Kp (TextsO V2 K v1 us) := ⟨by rw [hV2]; exact CT.out.zero (Blk.newAt z16r hF) HUH.out _⟩
        have NU : Kp (TextsO V2 L v2 bs) := ⟨by rw [hV2]; exact CU.out.zero (Blk.newAt z16r hF) HBH.out _⟩
        have N4 : Kp (Below A w V2) := ⟨by rw [hV2]; exact Below.row (C4.out.alloc (by have := C1.out.lt; omega) _) (by omega) _⟩
        have HV2 := Kp.mk hV2.symm
        clear hb hT hV2 hF hbs C1 C2 C3 C4 C5 C6 CT CU M1 M2 M3 M4 M5 M6 MT hL
        go_wp2_with (rw [← HFe.out]; refine wpList_store_row rfl 25 (.tmp 20) (.tmp 110) rfl F (kv .u8 q1).toArray rfl rfl 25 _ (Blk.newAt z16r HFe.out) HCq1.out HZq1.out (kv_all _ _) ?_; refine wpl_world (· = V2) HV2.out ?_; clear HV2; intro W0 e0; rw [e0]; clear e0)
        clear HFe
        have HSO : Kp (¬ ClashP us bs → y = signS s d x m ∧ (m = g ∨ BelowP s d x m g y)) := ⟨fun hno => ots_sound HM.out.1 HM.out.2 HG.out.1 HG.out.2 HY1l.out HY1b.out (by rw [HQ1.out, ← HQ.out]; exact HQE.out) (by rw [← HUS.out, ← HBS.out]; exact hno)⟩
        have HUT : Kp (us.length ≤ 300 ∧ ∀ i, i < us.length → ∃ k l, us.getD i [] = k :: l ∧ l.length ≤ 1000000) := ⟨by rw [HUS.out]; exact pub_small s d x⟩
        have HBT : Kp (bs.length ≤ 300 ∧ ∀ i, i < bs.length → ∃ k l, bs.getD i [] = k :: l ∧ l.length ≤ 1000000) := ⟨by rw [HBS.out]; exact rec_small d x m HY1l.out HY1b.out⟩
        obtain ⟨a1, n1, c1, rfl, hn1⟩ := NT.out.holds.slice
        obtain ⟨a2, n2, c2, rfl, hn2⟩ := NU.out.holds.slice
        have HN12 : Kp (n1 = us.length ∧ n2 = bs.length) := ⟨⟨hn1, hn2⟩⟩
        clear hn1 hn2
        obtain ⟨y0, hy0⟩ : ∃ z, z = signS s d x m := ⟨_, rfl⟩
        have HY0 := Kp.mk hy0
        have HY0l : Kp (y0.length = 1088 ∧ Bytes y0) := ⟨by rw [hy0]; exact ⟨signS_len _ _ _ _, signS_bytes _ _ _ _⟩⟩
        clear hy0
        have HEQ : Kp (∀ w, (binOp .eql 25 (dgV m) (dgV g)).run Tryd.prog w = .ok (.bool true) w) := ⟨fun w => by rw [eq32 HM.out.2 HG.out.2 HM.out.1 HG.out.1 w, decide_eq_true HMG.out]⟩
        by_cases hys : y = y0
        · have HES : Kp (∀ w, (binOp .eql 43 (.agg (kv .u8 y).toArray) (.agg (kv .u8 y0).toArray)).run Tryd.prog w = .ok (.bool true) w) := ⟨fun w => by rw [eql43 HY1l.out HY1b.out HY0l.out.1 HY0l.out.2 w, decide_eq_true hys]⟩
          clear hys
          refine wp_region_pred (fun w' => Row w' A 35 .u8 s ∧ Blk w' (A + 1) (.cells #[.int .i64 d, .int .u32 x] 24) ∧ Row w' (A + 2) 25 .u8 g ∧ Row w' (A + 3) 25 .u8 m ∧ Row w' D 43 .u8 y ∧ TextsO w' K (.slice a1 n1 c1) us ∧ TextsO w' L (.slice a2 n2 c2) bs ∧ Below A w w') [0, 1, 2, 3, 4, 5, 6, 7, 8, 9, 10, 11, 12, 13, 14, 15, 16, 17, 18, 19, 20, 21, 22, 23, 24, 25, 26] [27]
            (fun ι w' v => match ι with
              | 2 | 9 => v = dgV m
              | 3 => v = dgV g
              | 6 => v = .agg (kv .u8 y).toArray
              | 7 => v = .agg (kv .u8 s).toArray
              | 8 => v = nameV d x
              | 10 => v = .agg (kv .u8 y0).toArray
              | 14 | 15 | 16 | 17 | 18 | 19 | 22 | 23 | 24 => v = undef
              | _ => v = .bool true)
            [[], [(0, some 112)], [(1, some 113)], [(1, some 113)], [(1, some 113), (2, some 114), (3, some 115)], [(1, some 113), (4, some 116)], [(5, some 117)], [(5, some 117)], [(5, some 117)], [(5, some 117)], [(5, some 117), (7, some 119), (8, some 120), (9, some 121)], [(5, some 117), (6, some 118), (10, some 122)], [(1, some 113), (5, some 117), (11, some 123)], [(1, some 113), (10, some 122), (12, some 124)], [(13, some 125)], [(13, some 125)], [(13, some 125)], [(13, some 125)], [(13, some 125)], [(13, some 125), (14, some 126), (15, some 127), (16, some 128), (17, some 129), (18, some 130)], [(1, some 113), (13, some 125), (19, some 131)], [(1, some 113), (19, some 131), (20, some 132)], [(21, some 133)], [(21, some 133)], [(21, some 133), (22, some 134), (23, some 135)], [(1, some 113), (21, some 133), (24, some 136)], [(1, some 113), (25, some 137)]]
            [(0, some 112), (1, some 113), (2, some 114), (3, some 115), (4, some 116), (5, some 117), (6, some 118), (7, some 119), (8, some 120), (9, some 121), (10, some 122), (11, some 123), (12, some 124), (13, some 125), (14, some 126), (15, some 127), (16, some 128), (17, some 129), (18, some 130), (19, some 131), (20, some 132), (21, some 133), (22, some 134), (23, some 135), (24, some 136), (25, some 137), (26, some 138)]
            (by kernel_rfl) (by kernel_rfl) (by kernel_rfl) (by kernel_rfl) (by kernel_rfl) (by kernel_rfl) (by decide) (by decide) (fun w1 w2 h hb => ⟨h.1.keep hb, h.2.1.keep hb, h.2.2.1.keep hb, h.2.2.2.1.keep hb, h.2.2.2.2.1.keep hb, h.2.2.2.2.2.1.below hb, h.2.2.2.2.2.2.1.below hb, h.2.2.2.2.2.2.2.trans (hb.mono (Nat.le_of_lt h.1.lt))⟩) ?_ ⟨N1.out.drew, N2.out.draw, N3.out.drew, N6.out.drew, N5.out.drew, NT.out.drew, NU.out.drew, N4.out.drew⟩ ?_ ?_
          · intro ι w1 w2 v h hb
            match ι, h with
            | 0, h => exact h
            | 1, h => exact h
            | 2, h => exact h
            | 3, h => exact h
            | 4, h => exact h
            | 5, h => exact h
            | 6, h => exact h
            | 7, h => exact h
            | 8, h => exact h
            | 9, h => exact h
            | 10, h => exact h
            | 11, h => exact h
            | 12, h => exact h
            | 13, h => exact h
            | 14, h => exact h
            | 15, h => exact h
            | 16, h => exact h
            | 17, h => exact h
            | 18, h => exact h
            | 19, h => exact h
            | 20, h => exact h
            | 21, h => exact h
            | 22, h => exact h
            | 23, h => exact h
            | 24, h => exact h
            | 25, h => exact h
            | 26, h => exact h
            | _ + 27, h => exact h
          · refine ⟨fun γ wx hS h => ?_, fun γ wx hS h => ?_, fun γ wx hS h => ?_, fun γ wx hS h => ?_, fun γ wx hS h => ?_, fun γ wx hS h => ?_, fun γ wx hS h => ?_, fun γ wx hS h => ?_, fun γ wx hS h => ?_, fun γ wx hS h => ?_, fun γ wx hS h => ?_, fun γ wx hS h => ?_, fun γ wx hS h => ?_, fun γ wx hS h => ?_, fun γ wx hS h => ?_, fun γ wx hS h => ?_, fun γ wx hS h => ?_, fun γ wx hS h => ?_, fun γ wx hS h => ?_, fun γ wx hS h => ?_, fun γ wx hS h => ?_, fun γ wx hS h => ?_, fun γ wx hS h => ?_, fun γ wx hS h => ?_, fun γ wx hS h => ?_, fun γ wx hS h => ?_, fun γ wx hS h => ?_, trivial⟩
            · refine ⟨_, rfl, Or.inl ⟨rfl, predRun_call (f := 8) (args := #[]) (by simp only [putE]; go_simp) ?_⟩⟩
              exact (awake_any wx).mono fun e w2 ⟨h1, h2⟩ => ⟨_, h1, rfl, h2⟩
            · have h0 := h
              have e0 : γ 0 = .bool true := h0
              refine ⟨_, rfl, Or.inl ⟨rfl, predRun_value (v := .bool true) (by simp only [putE, e0]; first | rfl | (go_simp; done) | (go_simp; with_reducible rfl) | (go_simp; rfl)) rfl⟩⟩
            · have h1 := h
              have e1 : γ 1 = .bool true := h1
              refine ⟨_, rfl, Or.inl ⟨(by simp only [putE, e1]; first | kernel_rfl | rfl), predRun_value (exec_load_blk 25 (.tmp 9) rfl (A + 3) rfl 25 _ (0, 0) _ hS.2.2.2.1 Tryd.underlying25 rfl (cellsT25 HM.out.1)) rfl⟩⟩
            · have h1 := h
              have e1 : γ 1 = .bool true := h1
              refine ⟨_, rfl, Or.inl ⟨(by simp only [putE, e1]; first | kernel_rfl | rfl), predRun_value (exec_load_blk 25 (.tmp 8) rfl (A + 2) rfl 25 _ (0, 0) _ hS.2.2.1 Tryd.underlying25 rfl (cellsT25 HG.out.1)) rfl⟩⟩
            · obtain ⟨h1, h2, h3⟩ := h
              have e1 : γ 1 = .bool true := h1
              have e2 : γ 2 = dgV m := h2
              have e3 : γ 3 = dgV g := h3
              refine ⟨_, rfl, Or.inl ⟨(by simp only [putE, e1, e2, e3]; first | kernel_rfl | rfl), predRun_value (v := .bool true) (by simp only [putE, e1, e2, e3]; have hg := eqg32 m g; have he := HEQ.out; go_simp) rfl⟩⟩
            · obtain ⟨h1, h4⟩ := h
              have e1 : γ 1 = .bool true := h1
              have e4 : γ 4 = .bool true := h4
              refine ⟨_, rfl, Or.inl ⟨(by simp only [putE, e1, e4]; first | kernel_rfl | rfl), predRun_value (v := .bool true) (by simp only [putE, e1, e4]; first | rfl | (go_simp; done) | (go_simp; with_reducible rfl) | (go_simp; rfl)) rfl⟩⟩
            · have h5 := h
              have e5 : γ 5 = .bool true := h5
              refine ⟨_, rfl, Or.inl ⟨(by simp only [putE, e5]; first | kernel_rfl | rfl), predRun_value (exec_load_blk 43 (.tmp 13) rfl (D) rfl 43 _ (0, 0) _ hS.2.2.2.2.1 Tryd.underlying43 rfl (cellsT43 HY1l.out)) rfl⟩⟩
            · have h5 := h
              have e5 : γ 5 = .bool true := h5
              refine ⟨_, rfl, Or.inl ⟨(by simp only [putE, e5]; first | kernel_rfl | rfl), predRun_value (exec_load_blk 35 (.tmp 6) rfl (A) rfl 35 _ (0, 0) _ hS.1 Tryd.underlying35 rfl (cellsS35 HS.out.1)) rfl⟩⟩
            · have h5 := h
              have e5 : γ 5 = .bool true := h5
              refine ⟨_, rfl, Or.inl ⟨(by simp only [putE, e5]; first | kernel_rfl | rfl), predRun_value (exec_load_blk 24 (.tmp 7) rfl (A + 1) rfl 24 _ (0, 0) _ hS.2.1 Tryd.underlying24 rfl (cellsN24 d x)) rfl⟩⟩
            · have h5 := h
              have e5 : γ 5 = .bool true := h5
              refine ⟨_, rfl, Or.inl ⟨(by simp only [putE, e5]; first | kernel_rfl | rfl), predRun_value (exec_load_blk 25 (.tmp 9) rfl (A + 3) rfl 25 _ (0, 0) _ hS.2.2.2.1 Tryd.underlying25 rfl (cellsT25 HM.out.1)) rfl⟩⟩
            · obtain ⟨h5, h7, h8, h9⟩ := h
              have e5 : γ 5 = .bool true := h5
              have e7 : γ 7 = .agg (kv .u8 s).toArray := h7
              have e8 : γ 8 = nameV d x := h8
              have e9 : γ 9 = dgV m := h9
              refine ⟨_, rfl, Or.inl ⟨(by simp only [putE, e5, e7, e8, e9]; first | kernel_rfl | rfl), predRun_call (f := 17) (args := #[.agg (kv .u8 s).toArray, nameV d x, dgV m]) (by simp only [putE, e5, e7, e8, e9]; go_simp) ?_⟩⟩
              exact (rsign_any s d x m wx HX.out HS.out.1 HS.out.2 HM.out.1 HM.out.2).mono fun e w2 ⟨h1, h2⟩ => ⟨_, h1, (show Value.agg (kv .u8 (signS s d x m)).toArray = .agg (kv .u8 y0).toArray by rw [HY0.out]), h2⟩
            · obtain ⟨h5, h6, h10⟩ := h
              have e5 : γ 5 = .bool true := h5
              have e6 : γ 6 = .agg (kv .u8 y).toArray := h6
              have e10 : γ 10 = .agg (kv .u8 y0).toArray := h10
              refine ⟨_, rfl, Or.inl ⟨(by simp only [putE, e5, e6, e10]; first | kernel_rfl | rfl), predRun_value (v := .bool true) (by simp only [putE, e5, e6, e10]; have hg := eqg43 y y0; have he := HES.out; go_simp) rfl⟩⟩
            · obtain ⟨h1, h5, h11⟩ := h
              have e1 : γ 1 = .bool true := h1
              have e5 : γ 5 = .bool true := h5
              have e11 : γ 11 = .bool true := h11
              refine ⟨_, rfl, Or.inl ⟨(by simp only [putE, e1, e5, e11]; first | kernel_rfl | rfl), predRun_value (v := .bool true) (by simp only [putE, e1, e5, e11]; first | rfl | (go_simp; done) | (go_simp; with_reducible rfl) | (go_simp; rfl)) rfl⟩⟩
            · obtain ⟨h1, h10, h12⟩ := h
              have e1 : γ 1 = .bool true := h1
              have e10 : γ 10 = .agg (kv .u8 y0).toArray := h10
              have e12 : γ 12 = .bool true := h12
              refine ⟨_, rfl, Or.inl ⟨(by simp only [putE, e1, e10, e12]; first | kernel_rfl | rfl), predRun_value (v := .bool true) (by simp only [putE, e1, e10, e12]; first | rfl | (go_simp; done) | (go_simp; with_reducible rfl) | (go_simp; rfl)) rfl⟩⟩
            · have h13 := h
              have e13 : γ 13 = .bool true := h13
              refine ⟨_, rfl, Or.inr ⟨(by simp only [putE, e13]; first | kernel_rfl | rfl), rfl⟩⟩
            · have h13 := h
              have e13 : γ 13 = .bool true := h13
              refine ⟨_, rfl, Or.inr ⟨(by simp only [putE, e13]; first | kernel_rfl | rfl), rfl⟩⟩
            · have h13 := h
              have e13 : γ 13 = .bool true := h13
              refine ⟨_, rfl, Or.inr ⟨(by simp only [putE, e13]; first | kernel_rfl | rfl), rfl⟩⟩
            · have h13 := h
              have e13 : γ 13 = .bool true := h13
              refine ⟨_, rfl, Or.inr ⟨(by simp only [putE, e13]; first | kernel_rfl | rfl), rfl⟩⟩
            · have h13 := h
              have e13 : γ 13 = .bool true := h13
              refine ⟨_, rfl, Or.inr ⟨(by simp only [putE, e13]; first | kernel_rfl | rfl), rfl⟩⟩
            · obtain ⟨h13, h14, h15, h16, h17, h18⟩ := h
              have e13 : γ 13 = .bool true := h13
              have e14 : γ 14 = undef := h14
              have e15 : γ 15 = undef := h15
              have e16 : γ 16 = undef := h16
              have e17 : γ 17 = undef := h17
              have e18 : γ 18 = undef := h18
              refine ⟨_, rfl, Or.inr ⟨(by simp only [putE, e13, e14, e15, e16, e17, e18]; first | kernel_rfl | rfl), rfl⟩⟩
            · obtain ⟨h1, h13, h19⟩ := h
              have e1 : γ 1 = .bool true := h1
              have e13 : γ 13 = .bool true := h13
              have e19 : γ 19 = undef := h19
              refine ⟨_, rfl, Or.inl ⟨(by simp only [putE, e1, e13, e19]; first | kernel_rfl | rfl), predRun_value (v := .bool true) (by simp only [putE, e1, e13, e19]; first | rfl | (go_simp; done) | (go_simp; with_reducible rfl) | (go_simp; rfl)) rfl⟩⟩
            · obtain ⟨h1, h19, h20⟩ := h
              have e1 : γ 1 = .bool true := h1
              have e19 : γ 19 = undef := h19
              have e20 : γ 20 = .bool true := h20
              refine ⟨_, rfl, Or.inl ⟨(by simp only [putE, e1, e19, e20]; first | kernel_rfl | rfl), predRun_value (v := .bool true) (by simp only [putE, e1, e19, e20]; first | rfl | (go_simp; done) | (go_simp; with_reducible rfl) | (go_simp; rfl)) rfl⟩⟩
            · have h21 := h
              have e21 : γ 21 = .bool true := h21
              refine ⟨_, rfl, Or.inr ⟨(by simp only [putE, e21]; first | kernel_rfl | rfl), rfl⟩⟩
            · have h21 := h
              have e21 : γ 21 = .bool true := h21
              refine ⟨_, rfl, Or.inr ⟨(by simp only [putE, e21]; first | kernel_rfl | rfl), rfl⟩⟩
            · obtain ⟨h21, h22, h23⟩ := h
              have e21 : γ 21 = .bool true := h21
              have e22 : γ 22 = undef := h22
              have e23 : γ 23 = undef := h23
              refine ⟨_, rfl, Or.inr ⟨(by simp only [putE, e21, e22, e23]; first | kernel_rfl | rfl), rfl⟩⟩
            · obtain ⟨h1, h21, h24⟩ := h
              have e1 : γ 1 = .bool true := h1
              have e21 : γ 21 = .bool true := h21
              have e24 : γ 24 = undef := h24
              refine ⟨_, rfl, Or.inl ⟨(by simp only [putE, e1, e21, e24]; first | kernel_rfl | rfl), predRun_value (v := .bool true) (by simp only [putE, e1, e21, e24]; first | rfl | (go_simp; done) | (go_simp; with_reducible rfl) | (go_simp; rfl)) rfl⟩⟩
            · obtain ⟨h1, h25⟩ := h
              have e1 : γ 1 = .bool true := h1
              have e25 : γ 25 = .bool true := h25
              refine ⟨_, rfl, Or.inl ⟨rfl, predRun_value (v := .bool true) (by simp only [putE, e1, e25]; first | rfl | (go_simp; done) | (go_simp; with_reducible rfl) | (go_simp; rfl)) rfl⟩⟩
          · intro γ w9 hS h
            have h26 : γ 26 = .bool true := h.2.2.2.2.2.2.2.2.2.2.2.2.2.2.2.2.2.2.2.2.2.2.2.2.2.2
            have HB := Kp.mk hS.2.2.2.2.2.2.2
            simp only [putE, Act.put, List.setIfInBounds_toArray, List.set_cons_zero, List.set_cons_succ]
            rw [h26]
            clear h hS h26 N1 N2 N3 N4 N5 N6 NT NU
            refine wpOps_step rfl rfl ?_
            refine wp_assign_endD (d := some 12) (v := .bool true) rfl rfl rfl ?_
            simp only [Act.put, List.setIfInBounds_toArray, List.set_cons_zero, List.set_cons_succ]
            refine wpOps_done ?_
            go_wp2_with fail
            go_ret
            exact ⟨rfl, by rw [← HA.out]; exact HB.out⟩
        · have HES : Kp (∀ w, (binOp .eql 43 (.agg (kv .u8 y).toArray) (.agg (kv .u8 y0).toArray)).run Tryd.prog w = .ok (.bool false) w) := ⟨fun w => by rw [eql43 HY1l.out HY1b.out HY0l.out.1 HY0l.out.2 w, decide_eq_false hys]⟩
          have HCL : Kp (ClashP us bs) := ⟨Classical.byContradiction fun hno => hys (by rw [HY0.out]; exact (HSO.out hno).1)⟩
          have HBE : Kp (¬ BelowP s d x m g y) := ⟨fun ⟨c, hc, h1, h2⟩ => by rw [HMG.out] at h1; exact Nat.lt_irrefl _ h1⟩
          clear hys
          refine wp_region_pred (fun w' => Row w' A 35 .u8 s ∧ Blk w' (A + 1) (.cells #[.int .i64 d, .int .u32 x] 24) ∧ Row w' (A + 2) 25 .u8 g ∧ Row w' (A + 3) 25 .u8 m ∧ Row w' D 43 .u8 y ∧ TextsO w' K (.slice a1 n1 c1) us ∧ TextsO w' L (.slice a2 n2 c2) bs ∧ Below A w w') [0, 1, 2, 3, 4, 5, 6, 7, 8, 9, 10, 11, 12, 13, 14, 15, 16, 17, 18, 19, 20, 21, 22, 23, 24, 25, 26] [27]
            (fun ι w' v => match ι with
              | 2 | 9 | 16 => v = dgV m
              | 3 | 17 => v = dgV g
              | 6 | 18 => v = .agg (kv .u8 y).toArray
              | 7 | 14 => v = .agg (kv .u8 s).toArray
              | 8 | 15 => v = nameV d x
              | 10 => v = .agg (kv .u8 y0).toArray
              | 11 | 12 | 13 | 19 | 20 | 21 => v = .bool false
              | 22 => v = .slice a1 n1 c1
              | 23 => v = .slice a2 n2 c2
              | _ => v = .bool true)
            [[], [(0, some 112)], [(1, some 113)], [(1, some 113)], [(1, some 113), (2, some 114), (3, some 115)], [(1, some 113), (4, some 116)], [(5, some 117)], [(5, some 117)], [(5, some 117)], [(5, some 117)], [(5, some 117), (7, some 119), (8, some 120), (9, some 121)], [(5, some 117), (6, some 118), (10, some 122)], [(1, some 113), (5, some 117), (11, some 123)], [(1, some 113), (10, some 122), (12, some 124)], [(13, some 125)], [(13, some 125)], [(13, some 125)], [(13, some 125)], [(13, some 125)], [(13, some 125), (14, some 126), (15, some 127), (16, some 128), (17, some 129), (18, some 130)], [(1, some 113), (13, some 125), (19, some 131)], [(1, some 113), (19, some 131), (20, some 132)], [(21, some 133)], [(21, some 133)], [(21, some 133), (22, some 134), (23, some 135)], [(1, some 113), (21, some 133), (24, some 136)], [(1, some 113), (25, some 137)]]
            [(0, some 112), (1, some 113), (2, some 114), (3, some 115), (4, some 116), (5, some 117), (6, some 118), (7, some 119), (8, some 120), (9, some 121), (10, some 122), (11, some 123), (12, some 124), (13, some 125), (14, some 126), (15, some 127), (16, some 128), (17, some 129), (18, some 130), (19, some 131), (20, some 132), (21, some 133), (22, some 134), (23, some 135), (24, some 136), (25, some 137), (26, some 138)]
            (by kernel_rfl) (by kernel_rfl) (by kernel_rfl) (by kernel_rfl) (by kernel_rfl) (by kernel_rfl) (by decide) (by decide) (fun w1 w2 h hb => ⟨h.1.keep hb, h.2.1.keep hb, h.2.2.1.keep hb, h.2.2.2.1.keep hb, h.2.2.2.2.1.keep hb, h.2.2.2.2.2.1.below hb, h.2.2.2.2.2.2.1.below hb, h.2.2.2.2.2.2.2.trans (hb.mono (Nat.le_of_lt h.1.lt))⟩) ?_ ⟨N1.out.drew, N2.out.draw, N3.out.drew, N6.out.drew, N5.out.drew, NT.out.drew, NU.out.drew, N4.out.drew⟩ ?_ ?_
          · intro ι w1 w2 v h hb
            match ι, h with
            | 0, h => exact h
            | 1, h => exact h
            | 2, h => exact h
            | 3, h => exact h
            | 4, h => exact h
            | 5, h => exact h
            | 6, h => exact h
            | 7, h => exact h
            | 8, h => exact h
            | 9, h => exact h
            | 10, h => exact h
            | 11, h => exact h
            | 12, h => exact h
            | 13, h => exact h
            | 14, h => exact h
            | 15, h => exact h
            | 16, h => exact h
            | 17, h => exact h
            | 18, h => exact h
            | 19, h => exact h
            | 20, h => exact h
            | 21, h => exact h
            | 22, h => exact h
            | 23, h => exact h
            | 24, h => exact h
            | 25, h => exact h
            | 26, h => exact h
            | _ + 27, h => exact h
          · refine ⟨fun γ wx hS h => ?_, fun γ wx hS h => ?_, fun γ wx hS h => ?_, fun γ wx hS h => ?_, fun γ wx hS h => ?_, fun γ wx hS h => ?_, fun γ wx hS h => ?_, fun γ wx hS h => ?_, fun γ wx hS h => ?_, fun γ wx hS h => ?_, fun γ wx hS h => ?_, fun γ wx hS h => ?_, fun γ wx hS h => ?_, fun γ wx hS h => ?_, fun γ wx hS h => ?_, fun γ wx hS h => ?_, fun γ wx hS h => ?_, fun γ wx hS h => ?_, fun γ wx hS h => ?_, fun γ wx hS h => ?_, fun γ wx hS h => ?_, fun γ wx hS h => ?_, fun γ wx hS h => ?_, fun γ wx hS h => ?_, fun γ wx hS h => ?_, fun γ wx hS h => ?_, fun γ wx hS h => ?_, trivial⟩
            · refine ⟨_, rfl, Or.inl ⟨rfl, predRun_call (f := 8) (args := #[]) (by simp only [putE]; go_simp) ?_⟩⟩
              exact (awake_any wx).mono fun e w2 ⟨h1, h2⟩ => ⟨_, h1, rfl, h2⟩
            · have h0 := h
              have e0 : γ 0 = .bool true := h0
              refine ⟨_, rfl, Or.inl ⟨rfl, predRun_value (v := .bool true) (by simp only [putE, e0]; first | rfl | (go_simp; done) | (go_simp; with_reducible rfl) | (go_simp; rfl)) rfl⟩⟩
            · have h1 := h
              have e1 : γ 1 = .bool true := h1
              refine ⟨_, rfl, Or.inl ⟨(by simp only [putE, e1]; first | kernel_rfl | rfl), predRun_value (exec_load_blk 25 (.tmp 9) rfl (A + 3) rfl 25 _ (0, 0) _ hS.2.2.2.1 Tryd.underlying25 rfl (cellsT25 HM.out.1)) rfl⟩⟩
            · have h1 := h
              have e1 : γ 1 = .bool true := h1
              refine ⟨_, rfl, Or.inl ⟨(by simp only [putE, e1]; first | kernel_rfl | rfl), predRun_value (exec_load_blk 25 (.tmp 8) rfl (A + 2) rfl 25 _ (0, 0) _ hS.2.2.1 Tryd.underlying25 rfl (cellsT25 HG.out.1)) rfl⟩⟩
            · obtain ⟨h1, h2, h3⟩ := h
              have e1 : γ 1 = .bool true := h1
              have e2 : γ 2 = dgV m := h2
              have e3 : γ 3 = dgV g := h3
              refine ⟨_, rfl, Or.inl ⟨(by simp only [putE, e1, e2, e3]; first | kernel_rfl | rfl), predRun_value (v := .bool true) (by simp only [putE, e1, e2, e3]; have hg := eqg32 m g; have he := HEQ.out; go_simp) rfl⟩⟩
            · obtain ⟨h1, h4⟩ := h
              have e1 : γ 1 = .bool true := h1
              have e4 : γ 4 = .bool true := h4
              refine ⟨_, rfl, Or.inl ⟨(by simp only [putE, e1, e4]; first | kernel_rfl | rfl), predRun_value (v := .bool true) (by simp only [putE, e1, e4]; first | rfl | (go_simp; done) | (go_simp; with_reducible rfl) | (go_simp; rfl)) rfl⟩⟩
            · have h5 := h
              have e5 : γ 5 = .bool true := h5
              refine ⟨_, rfl, Or.inl ⟨(by simp only [putE, e5]; first | kernel_rfl | rfl), predRun_value (exec_load_blk 43 (.tmp 13) rfl (D) rfl 43 _ (0, 0) _ hS.2.2.2.2.1 Tryd.underlying43 rfl (cellsT43 HY1l.out)) rfl⟩⟩
            · have h5 := h
              have e5 : γ 5 = .bool true := h5
              refine ⟨_, rfl, Or.inl ⟨(by simp only [putE, e5]; first | kernel_rfl | rfl), predRun_value (exec_load_blk 35 (.tmp 6) rfl (A) rfl 35 _ (0, 0) _ hS.1 Tryd.underlying35 rfl (cellsS35 HS.out.1)) rfl⟩⟩
            · have h5 := h
              have e5 : γ 5 = .bool true := h5
              refine ⟨_, rfl, Or.inl ⟨(by simp only [putE, e5]; first | kernel_rfl | rfl), predRun_value (exec_load_blk 24 (.tmp 7) rfl (A + 1) rfl 24 _ (0, 0) _ hS.2.1 Tryd.underlying24 rfl (cellsN24 d x)) rfl⟩⟩
            · have h5 := h
              have e5 : γ 5 = .bool true := h5
              refine ⟨_, rfl, Or.inl ⟨(by simp only [putE, e5]; first | kernel_rfl | rfl), predRun_value (exec_load_blk 25 (.tmp 9) rfl (A + 3) rfl 25 _ (0, 0) _ hS.2.2.2.1 Tryd.underlying25 rfl (cellsT25 HM.out.1)) rfl⟩⟩
            · obtain ⟨h5, h7, h8, h9⟩ := h
              have e5 : γ 5 = .bool true := h5
              have e7 : γ 7 = .agg (kv .u8 s).toArray := h7
              have e8 : γ 8 = nameV d x := h8
              have e9 : γ 9 = dgV m := h9
              refine ⟨_, rfl, Or.inl ⟨(by simp only [putE, e5, e7, e8, e9]; first | kernel_rfl | rfl), predRun_call (f := 17) (args := #[.agg (kv .u8 s).toArray, nameV d x, dgV m]) (by simp only [putE, e5, e7, e8, e9]; go_simp) ?_⟩⟩
              exact (rsign_any s d x m wx HX.out HS.out.1 HS.out.2 HM.out.1 HM.out.2).mono fun e w2 ⟨h1, h2⟩ => ⟨_, h1, (show Value.agg (kv .u8 (signS s d x m)).toArray = .agg (kv .u8 y0).toArray by rw [HY0.out]), h2⟩
            · obtain ⟨h5, h6, h10⟩ := h
              have e5 : γ 5 = .bool true := h5
              have e6 : γ 6 = .agg (kv .u8 y).toArray := h6
              have e10 : γ 10 = .agg (kv .u8 y0).toArray := h10
              refine ⟨_, rfl, Or.inl ⟨(by simp only [putE, e5, e6, e10]; first | kernel_rfl | rfl), predRun_value (v := .bool false) (by simp only [putE, e5, e6, e10]; have hg := eqg43 y y0; have he := HES.out; go_simp) rfl⟩⟩
            · obtain ⟨h1, h5, h11⟩ := h
              have e1 : γ 1 = .bool true := h1
              have e5 : γ 5 = .bool true := h5
              have e11 : γ 11 = .bool false := h11
              refine ⟨_, rfl, Or.inl ⟨(by simp only [putE, e1, e5, e11]; first | kernel_rfl | rfl), predRun_value (v := .bool false) (by simp only [putE, e1, e5, e11]; first | rfl | (go_simp; done) | (go_simp; with_reducible rfl) | (go_simp; rfl)) rfl⟩⟩
            · obtain ⟨h1, h10, h12⟩ := h
              have e1 : γ 1 = .bool true := h1
              have e10 : γ 10 = .agg (kv .u8 y0).toArray := h10
              have e12 : γ 12 = .bool false := h12
              refine ⟨_, rfl, Or.inl ⟨(by simp only [putE, e1, e10, e12]; first | kernel_rfl | rfl), predRun_value (v := .bool false) (by simp only [putE, e1, e10, e12]; first | rfl | (go_simp; done) | (go_simp; with_reducible rfl) | (go_simp; rfl)) rfl⟩⟩
            · have h13 := h
              have e13 : γ 13 = .bool false := h13
              refine ⟨_, rfl, Or.inl ⟨(by simp only [putE, e13]; first | kernel_rfl | rfl), predRun_value (exec_load_blk 35 (.tmp 6) rfl (A) rfl 35 _ (0, 0) _ hS.1 Tryd.underlying35 rfl (cellsS35 HS.out.1)) rfl⟩⟩
            · have h13 := h
              have e13 : γ 13 = .bool false := h13
              refine ⟨_, rfl, Or.inl ⟨(by simp only [putE, e13]; first | kernel_rfl | rfl), predRun_value (exec_load_blk 24 (.tmp 7) rfl (A + 1) rfl 24 _ (0, 0) _ hS.2.1 Tryd.underlying24 rfl (cellsN24 d x)) rfl⟩⟩
            · have h13 := h
              have e13 : γ 13 = .bool false := h13
              refine ⟨_, rfl, Or.inl ⟨(by simp only [putE, e13]; first | kernel_rfl | rfl), predRun_value (exec_load_blk 25 (.tmp 9) rfl (A + 3) rfl 25 _ (0, 0) _ hS.2.2.2.1 Tryd.underlying25 rfl (cellsT25 HM.out.1)) rfl⟩⟩
            · have h13 := h
              have e13 : γ 13 = .bool false := h13
              refine ⟨_, rfl, Or.inl ⟨(by simp only [putE, e13]; first | kernel_rfl | rfl), predRun_value (exec_load_blk 25 (.tmp 8) rfl (A + 2) rfl 25 _ (0, 0) _ hS.2.2.1 Tryd.underlying25 rfl (cellsT25 HG.out.1)) rfl⟩⟩
            · have h13 := h
              have e13 : γ 13 = .bool false := h13
              refine ⟨_, rfl, Or.inl ⟨(by simp only [putE, e13]; first | kernel_rfl | rfl), predRun_value (exec_load_blk 43 (.tmp 13) rfl (D) rfl 43 _ (0, 0) _ hS.2.2.2.2.1 Tryd.underlying43 rfl (cellsT43 HY1l.out)) rfl⟩⟩
            · obtain ⟨h13, h14, h15, h16, h17, h18⟩ := h
              have e13 : γ 13 = .bool false := h13
              have e14 : γ 14 = .agg (kv .u8 s).toArray := h14
              have e15 : γ 15 = nameV d x := h15
              have e16 : γ 16 = dgV m := h16
              have e17 : γ 17 = dgV g := h17
              have e18 : γ 18 = .agg (kv .u8 y).toArray := h18
              refine ⟨_, rfl, Or.inl ⟨(by simp only [putE, e13, e14, e15, e16, e17, e18]; first | kernel_rfl | rfl), predRun_call (f := 23) (args := #[.agg (kv .u8 s).toArray, nameV d x, dgV m, dgV g, .agg (kv .u8 y).toArray]) (by simp only [putE, e13, e14, e15, e16, e17, e18]; go_simp) ?_⟩⟩
              refine (below_any s d x m g y wx HX.out HS.out.1 HS.out.2 HM.out.1 HM.out.2 HG.out.1 HG.out.2 HY1l.out HY1b.out).mono fun e w2 ⟨b, h1, h2, h3⟩ => ⟨_, h1, (show Value.bool b = .bool false from ?_), h3⟩
              rw [bool_isF h2 HBE.out]
            · obtain ⟨h1, h13, h19⟩ := h
              have e1 : γ 1 = .bool true := h1
              have e13 : γ 13 = .bool false := h13
              have e19 : γ 19 = .bool false := h19
              refine ⟨_, rfl, Or.inl ⟨(by simp only [putE, e1, e13, e19]; first | kernel_rfl | rfl), predRun_value (v := .bool false) (by simp only [putE, e1, e13, e19]; first | rfl | (go_simp; done) | (go_simp; with_reducible rfl) | (go_simp; rfl)) rfl⟩⟩
            · obtain ⟨h1, h19, h20⟩ := h
              have e1 : γ 1 = .bool true := h1
              have e19 : γ 19 = .bool false := h19
              have e20 : γ 20 = .bool false := h20
              refine ⟨_, rfl, Or.inl ⟨(by simp only [putE, e1, e19, e20]; first | kernel_rfl | rfl), predRun_value (v := .bool false) (by simp only [putE, e1, e19, e20]; first | rfl | (go_simp; done) | (go_simp; with_reducible rfl) | (go_simp; rfl)) rfl⟩⟩
            · have h21 := h
              have e21 : γ 21 = .bool false := h21
              refine ⟨_, rfl, Or.inl ⟨(by simp only [putE, e21]; first | kernel_rfl | rfl), predRun_value (v := .slice a1 n1 c1) (by simp only [putE, e21]; first | rfl | (go_simp; done) | (go_simp; with_reducible rfl) | (go_simp; rfl)) rfl⟩⟩
            · have h21 := h
              have e21 : γ 21 = .bool false := h21
              refine ⟨_, rfl, Or.inl ⟨(by simp only [putE, e21]; first | kernel_rfl | rfl), predRun_value (v := .slice a2 n2 c2) (by simp only [putE, e21]; first | rfl | (go_simp; done) | (go_simp; with_reducible rfl) | (go_simp; rfl)) rfl⟩⟩
            · obtain ⟨h21, h22, h23⟩ := h
              have e21 : γ 21 = .bool false := h21
              have e22 : γ 22 = .slice a1 n1 c1 := h22
              have e23 : γ 23 = .slice a2 n2 c2 := h23
              refine ⟨_, rfl, Or.inl ⟨(by simp only [putE, e21, e22, e23]; first | kernel_rfl | rfl), predRun_call (f := 24) (args := #[.slice a1 n1 c1, .slice a2 n2 c2]) (by simp only [putE, e21, e22, e23]; go_simp) ?_⟩⟩
              refine (clash_any a1 n1 c1 us a2 n2 c2 bs wx hS.2.2.2.2.2.1.holds hS.2.2.2.2.2.2.1.holds (fun i hi => HUT.out.2 i (by rw [← HN12.out.1]; exact hi)) (fun i hi => HBT.out.2 i (by rw [← HN12.out.2]; exact hi)) (by rw [HN12.out.1]; exact HUT.out.1) (by rw [HN12.out.2]; exact HBT.out.1)).mono fun e w2 ⟨b, h1, h2, h3⟩ => ⟨_, h1, (show Value.bool b = .bool true from ?_), h3⟩
              rw [bool_isT h2 HCL.out]
            · obtain ⟨h1, h21, h24⟩ := h
              have e1 : γ 1 = .bool true := h1
              have e21 : γ 21 = .bool false := h21
              have e24 : γ 24 = .bool true := h24
              refine ⟨_, rfl, Or.inl ⟨(by simp only [putE, e1, e21, e24]; first | kernel_rfl | rfl), predRun_value (v := .bool true) (by simp only [putE, e1, e21, e24]; first | rfl | (go_simp; done) | (go_simp; with_reducible rfl) | (go_simp; rfl)) rfl⟩⟩
            · obtain ⟨h1, h25⟩ := h
              have e1 : γ 1 = .bool true := h1
              have e25 : γ 25 = .bool true := h25
              refine ⟨_, rfl, Or.inl ⟨rfl, predRun_value (v := .bool true) (by simp only [putE, e1, e25]; first | rfl | (go_simp; done) | (go_simp; with_reducible rfl) | (go_simp; rfl)) rfl⟩⟩
          · intro γ w9 hS h
            have h26 : γ 26 = .bool true := h.2.2.2.2.2.2.2.2.2.2.2.2.2.2.2.2.2.2.2.2.2.2.2.2.2.2
            have HB := Kp.mk hS.2.2.2.2.2.2.2
            simp only [putE, Act.put, List.setIfInBounds_toArray, List.set_cons_zero, List.set_cons_succ]
            rw [h26]
            clear h hS h26 N1 N2 N3 N4 N5 N6 NT NU
            refine wpOps_step rfl rfl ?_
            refine wp_assign_endD (d := some 12) (v := .bool true) rfl rfl rfl ?_
            simp only [Act.put, List.setIfInBounds_toArray, List.set_cons_zero, List.set_cons_succ]
            refine wpOps_done ?_
            go_wp2_with fail
            go_ret
            exact ⟨rfl, by rw [← HA.out]; exact HB.out⟩
    · have HTN : Kp ((t != 0) = true) := ⟨by
        rw [bne_iff_ne]
        intro e
        exact hqq (by rw [← HQ1.out, HT0.out e, recL_sign, ← HQ.out])⟩
      have HNQ : Kp (∀ w, (binOp .neq 27 (dgV q1) (dgV q0)).run Tryd.prog w = .ok (.bool true) w) := ⟨fun w => by rw [neq27 HQ1b.out HQb.out HQ1l.out HQl.out w, decide_eq_false hqq]; rfl⟩
      clear hqq
      refine wp_region_pred (fun w' => Row w' A 35 .u8 s ∧ Blk w' (A + 1) (.cells #[.int .i64 d, .int .u32 x] 24) ∧ Row w' (A + 2) 25 .u8 g ∧ Row w' (A + 3) 25 .u8 m ∧ Row w' D 43 .u8 y ∧ Row w' E 25 .u8 q0 ∧ TextsO w' K v1 us ∧ Below A w w') [0, 1, 2, 3, 4, 5, 6, 7] []
        (fun ι w' v => match ι with
          | 0 | 1 => v = nameV d x
          | 2 => v = dgV m
          | 3 | 4 => v = .agg (kv .u8 y).toArray
          | 5 => v = dgV q1
          | 6 => v = dgV q0
          | _ => v = .bool true)
        [[], [(0, some 87)], [], [], [(1, some 88), (3, some 90)], [(1, some 88), (2, some 89), (4, some 91)], [], [(5, some 92), (6, some 93)]]
        [(0, some 87), (1, some 88), (2, some 89), (3, some 90), (4, some 91), (5, some 92), (6, some 93), (7, some 94)]
        (by kernel_rfl) (by kernel_rfl) (by kernel_rfl) (by kernel_rfl) (by kernel_rfl) (by kernel_rfl) (by decide) (by decide) (fun w1 w2 h hb => ⟨h.1.keep hb, h.2.1.keep hb, h.2.2.1.keep hb, h.2.2.2.1.keep hb, h.2.2.2.2.1.keep hb, h.2.2.2.2.2.1.keep hb, h.2.2.2.2.2.2.1.below hb, h.2.2.2.2.2.2.2.trans (hb.mono (Nat.le_of_lt h.1.lt))⟩) ?_ ⟨F1.out.drew, F2.out.draw, F3.out.drew, F6.out.drew, F5.out.drew, FE.out.drew, FT.out.drew, F4.out.drew⟩ ?_ ?_
      · intro ι w1 w2 v h hb
        match ι, h with
        | 0, h => exact h
        | 1, h => exact h
        | 2, h => exact h
        | 3, h => exact h
        | 4, h => exact h
        | 5, h => exact h
        | 6, h => exact h
        | 7, h => exact h
        | _ + 8, h => exact h
      · refine ⟨fun γ wx hS h => ?_, fun γ wx hS h => ?_, fun γ wx hS h => ?_, fun γ wx hS h => ?_, fun γ wx hS h => ?_, fun γ wx hS h => ?_, fun γ wx hS h => ?_, fun γ wx hS h => ?_, trivial⟩
        · refine ⟨_, rfl, Or.inl ⟨rfl, predRun_value (exec_load_blk 24 (.tmp 7) rfl (A + 1) rfl 24 _ (0, 0) _ hS.2.1 Tryd.underlying24 rfl (cellsN24 d x)) rfl⟩⟩
        · have h0 := h
          have e0 : γ 0 = nameV d x := h0
          refine ⟨_, rfl, Or.inl ⟨rfl, predRun_call (f := 10) (args := #[nameV d x]) (by simp only [putE, e0]; go_simp) ?_⟩⟩
          exact (to_any d x wx).mono fun e w2 ⟨h1, h2⟩ => ⟨_, h1, rfl, h2⟩
        · refine ⟨_, rfl, Or.inl ⟨rfl, predRun_value (exec_load_blk 25 (.tmp 9) rfl (A + 3) rfl 25 _ (0, 0) _ hS.2.2.2.1 Tryd.underlying25 rfl (cellsT25 HM.out.1)) rfl⟩⟩
        · refine ⟨_, rfl, Or.inl ⟨rfl, predRun_value (exec_load_blk 43 (.tmp 13) rfl (D) rfl 43 _ (0, 0) _ hS.2.2.2.2.1 Tryd.underlying43 rfl (cellsT43 HY1l.out)) rfl⟩⟩
        · obtain ⟨h1, h3⟩ := h
          have e1 : γ 1 = nameV d x := h1
          have e3 : γ 3 = .agg (kv .u8 y).toArray := h3
          refine ⟨_, rfl, Or.inl ⟨rfl, predRun_call (f := 20) (args := #[.agg (kv .u8 y).toArray]) (by simp only [putE, e1, e3]; go_simp) ?_⟩⟩
          exact (toSig_any y wx HY1l.out HY1b.out).mono fun e w2 ⟨h1, h2⟩ => ⟨_, h1, rfl, h2⟩
        · obtain ⟨h1, h2, h4⟩ := h
          have e1 : γ 1 = nameV d x := h1
          have e2 : γ 2 = dgV m := h2
          have e4 : γ 4 = .agg (kv .u8 y).toArray := h4
          refine ⟨_, rfl, Or.inl ⟨rfl, predRun_call (f := 18) (args := #[nameV d x, dgV m, .agg (kv .u8 y).toArray]) (by simp only [putE, e1, e2, e4]; go_simp) ?_⟩⟩
          exact (recover_any d x m y wx (HK.out.keep (by rw [← HA.out]; exact hS.2.2.2.2.2.2.2)) HX.out HM.out.1 HM.out.2 HY1l.out HY1b.out).mono fun e w2 ⟨h1, h2⟩ => ⟨_, h1, (show dgV (shortL (wholeT d x (recL d x m y 68))) = dgV q1 by rw [HQ1.out]), h2⟩
        · refine ⟨_, rfl, Or.inl ⟨rfl, predRun_value (exec_load_blk 25 (.tmp 18) rfl (E) rfl 25 _ (0, 0) _ hS.2.2.2.2.2.1 Tryd.underlying25 rfl (cellsT25 HQl.out)) rfl⟩⟩
        · obtain ⟨h5, h6⟩ := h
          have e5 : γ 5 = dgV q1 := h5
          have e6 : γ 6 = dgV q0 := h6
          refine ⟨_, rfl, Or.inl ⟨rfl, predRun_value (v := .bool true) (by simp only [putE, e5, e6]; have hg := neg27 q1 q0; have he := HNQ.out; first | rfl | (go_simp; done) | (go_simp; with_reducible rfl) | (go_simp; rfl)) rfl⟩⟩
      · intro γ w9 hS h
        have e7 : γ 7 = .bool true := h.2.2.2.2.2.2.2
        have HB9 := Kp.mk hS
        simp only [putE, Act.put, List.setIfInBounds_toArray, List.set_cons_zero, List.set_cons_succ]
        rw [e7]
        clear h hS e7 F1 F2 F3 F4 F5 F6 FE FT
        refine wpOps_done ?_
        have M3 := Kp.mk HB9.out.2.2.1
        have M6 := Kp.mk HB9.out.2.2.2.1
        have M4 := Kp.mk HB9.out.2.2.2.2.2.2.2
        clear HB9
        go_wp2_with fail
        refine (awake_any _).mono ?_
        rintro r5 w5 ⟨rfl, hb5⟩
        have P3 := Kp.mk (M3.out.keep hb5)
        have P6 := Kp.mk (M6.out.keep hb5)
        have P4 : Kp (Below A w w5) := ⟨M4.out.trans (hb5.mono (by have := M3.out.lt; omega))⟩
        clear hb5 M3 M6 M4
        have hng := ng25 m g
        have hnq := HNE.out
        have ht0 : (t != 0) = true := HTN.out
        go_wp2_with (first
          | (refine wpList_load_rowG rfl 25 (.tmp 9) rfl (A + 3) rfl 25 (kv .u8 m).toArray (0, 0) _ P6.out Tryd.underlying25 rfl (cellsT25 HM.out.1) ?_)
          | (refine wpList_load_rowG rfl 25 (.tmp 8) rfl (A + 2) rfl 25 (kv .u8 g).toArray (0, 0) _ P3.out Tryd.underlying25 rfl (cellsT25 HG.out.1) ?_))
        go_ret
        exact ⟨rfl, by rw [← HA.out]; exact P4.out⟩
end Go.Proofs.YtpljjmdkagbjpaaDoor
