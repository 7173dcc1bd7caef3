/-
  The law LadderUps, walked.
  What the listed variable holds gives the walks: the standard's constants. The door's own heap meets the condition.
-/
import Derived.Test.YtahmioiefmheeaaDoorLu12
import Derived.Test.YtahmioiefmheeaaDoorRows
import Derived.ProofKit
import Derived.LaidMore
import Derived.OpenShut
import Derived.Stop.Joined
namespace Go.Proofs.YtahmioiefmheeaaDoor
open Go.RowKit

abbrev lupsVs : List Nat := [0, 1, 2, 3, 4, 5, 6, 7, 8, 9, 10, 11, 12, 13, 14, 15, 16, 17, 18, 19, 20, 21, 22, 23, 24, 25, 26, 27, 28, 29, 30, 31, 32, 33, 34, 35, 36, 37, 38, 39, 40, 41, 42, 43, 44, 45, 46, 47]
set_option maxRecDepth 100000 in
set_option maxHeartbeats 4000000 in
theorem ladderUps_walk (x0_0 x0_1 x0_2 x1 x2 x3 : Int) (x4 x5 : List Int) (w : World) (_w0_0 : (Lit.int .i64 x0_0).wf = true) (w0_1 : (Lit.int .u32 x0_1).wf = true) (w0_2 : (Lit.int .u32 x0_2).wf = true) (_w1 : (Lit.int .i64 x1).wf = true) (_w2 : (Lit.int .i64 x2).wf = true) (_w3 : (Lit.int .i64 x3).wf = true) (l4 : x4.length = 16) (b4 : Bytes x4) (l5 : x5.length = 16) (b5 : Bytes x5) (hk : KonIs w) :
    Calls Tryd.prog 7 #[plV x0_0 x0_1 x0_2, .int .i64 x1, .int .i64 x2, .int .i64 x3, dgV x4, dgV x5] w fun e w' => e = .returned (.bool true) ∧ Below w.heap.size w w' := by
  have HE := Kp.mk (u32_wf w0_1)
  have HS := Kp.mk (u32_wf w0_2)
  have HX4 := Kp.mk l4
  have HB4 := Kp.mk b4
  have HX5 := Kp.mk l5
  have HB5 := Kp.mk b5
  have HK := Kp.mk hk
  have HC4 := Kp.mk (cells49 l4)
  have HC5 := Kp.mk (cells49 l5)
  clear _w0_0 w0_1 w0_2 _w1 _w2 _w3 l4 b4 l5 b5 hk
  obtain ⟨z, hz⟩ : ∃ z, z = upS x0_0 x0_1 x0_2 x1 x4 x2 := ⟨_, rfl⟩
  obtain ⟨q, hq⟩ : ∃ q, q = upF x1 x2 := ⟨_, rfl⟩
  obtain ⟨y, hy⟩ : ∃ y, y = shortL (leafT x0_0 x0_1 x0_2 x1 x4 x3) := ⟨_, rfl⟩
  obtain ⟨j, hj⟩ : ∃ j, j = shortL (joinT x0_0 x0_1 x0_2 x1 x4 x5) := ⟨_, rfl⟩
  obtain ⟨L, hL⟩ : ∃ L, L = lev x2 := ⟨_, rfl⟩
  have HZl : Kp (z.length = 16 ∧ Bytes z) := ⟨by rw [hz]; exact ⟨upS_len _ _ _ _ _ _, upS_bytes _ _ _ _ _ _⟩⟩
  have HQZ : Kp (∀ w, (binOp .eql 33 (dgV z) (dgV z)).run Tryd.prog w = .ok (.bool true) w) := ⟨fun w => eql50 (p := z) HZl.out.2 HZl.out.1 w⟩
  have HQY : Kp (∀ w, (binOp .eql 33 (dgV y) (dgV y)).run Tryd.prog w = .ok (.bool true) w) := ⟨fun w => by rw [hy]; exact eql50 (shortL_bytes _) (shortL_len _) w⟩
  have HQJ : Kp (∀ w, (binOp .eql 33 (dgV j) (dgV j)).run Tryd.prog w = .ok (.bool true) w) := ⟨fun w => by rw [hj]; exact eql50 (shortL_bytes _) (shortL_len _) w⟩
  have HC50 := Kp.mk (cells50 HZl.out.1)
  have HC49 := Kp.mk (cells49 HZl.out.1)
  have HZ50 := Kp.mk (size50 HZl.out.1)
  have HZ49 := Kp.mk (size50 HZl.out.1)
  have HZQ := Kp.mk (And.intro hz hq)
  have HY := Kp.mk hy
  have HJ := Kp.mk hj
  have HLv := Kp.mk hL
  clear hz hq hy hj hL
  obtain ⟨A, hA⟩ : ∃ A, A = w.heap.size := ⟨_, rfl⟩
  have HA := Kp.mk hA
  go_enter Tryd.func7, Tryd.ntmps7
  go_wp2_with fail
  rw [← hA]
  refine wp_world (fun W => Blk W A (.cells #[.int .i64 x0_0, .int .u32 x0_1, .int .u32 x0_2] 48) ∧ Row W (A + 1) 32 .u8 x4 ∧ Row W (A + 1 + 1) 32 .u8 x5 ∧ Below A w W) ⟨Blk.old (Blk.old (Blk.newAt _ hA) _) _, Blk.old (Blk.newAt _ (by simp [hA])) _, Blk.newAt _ (by rw [hA]; simp), by rw [hA]; exact more (more (more (Below.refl _ _) _) _) _⟩ ?_
  clear hA
  rintro W ⟨g1, g2, g3, g4⟩
  have G1 := Kp.mk g1
  have G2 := Kp.mk g2
  have G3 := Kp.mk g3
  have G4 := Kp.mk g4
  clear g1 g2 g3 g4
  refine wp_region_predQ (fun w' => Blk w' A (.cells #[.int .i64 x0_0, .int .u32 x0_1, .int .u32 x0_2] 48) ∧ Row w' (A + 1) 32 .u8 x4 ∧ Row w' (A + 1 + 1) 32 .u8 x5 ∧ Below A w w') [0, 1, 2, 3, 4, 5, 6, 7, 8, 9] [8] [10, 11]
    (fun ι w' v => match ι with
      | 0 | 1 => v = plV x0_0 x0_1 x0_2
      | 2 => v = .int .i64 x1
      | 3 => v = dgV x4
      | 4 => v = .int .i64 x2
      | 5 | 6 => v = .tuple #[dgV z, .int .i64 q]
      | 7 => v = dgV z
      | 8 => v = .int .i64 q
      | 9 => ∃ g, v = .pointer (some ⟨g, 0, none⟩) ∧ A + 1 + 1 < g ∧ Row w' g 33 .u8 (fill 16 [])
      | _ => v = .bool true)
    [[], [(0, some 18)], [], [], [], [(1, some 19), (2, some 20), (3, some 21), (4, some 22)], [(5, some 23)], [(6, some 17)], [(6, some 17)], []]
    [[(6, some 17)]]
    [(0, some 18), (1, some 19), (2, some 20), (3, some 21), (4, some 22), (5, some 23), (6, some 17), (7, some 24), (8, some 25), (9, some 13)]
    (by kernel_rfl) (by kernel_rfl) (by kernel_rfl) (by kernel_rfl) (by kernel_rfl) (by kernel_rfl) (by kernel_rfl) (by decide) (by decide) (fun w1 w2 h hb => ⟨h.1.keep hb, h.2.1.keep hb, h.2.2.1.keep hb, h.2.2.2.trans (hb.mono (Nat.le_of_lt h.1.lt))⟩) (fun c a w d v h => by cases d <;> exact h) ?_ ⟨G1.out.draw, G2.out.drew, G3.out.drew, G4.out.drew⟩ ?_ ?_ ?_
  · intro ι w1 w2 v h hb
    by_cases h9 : ι = 9
    · subst h9
      exact (by obtain ⟨g, e, h1, hg⟩ := h; exact ⟨g, e, h1, hg.keep hb⟩)
    match ι, h9, h with
    | 0, _, h => exact h
    | 1, _, h => exact h
    | 2, _, h => exact h
    | 3, _, h => exact h
    | 4, _, h => exact h
    | 5, _, h => exact h
    | 6, _, h => exact h
    | 7, _, h => exact h
    | 8, _, h => exact h
    | 9, g, h => exact absurd rfl g
    | _ + 10, _, h => exact h
  · refine ⟨fun γ wx hS h => ?_, fun γ wx hS h => ?_, fun γ wx hS h => ?_, fun γ wx hS h => ?_, fun γ wx hS h => ?_, fun γ wx hS h => ?_, fun γ wx hS h => ?_, fun γ wx hS h => ?_, fun γ wx hS h => ?_, fun γ wx hS h => ?_, trivial⟩
    · refine ⟨_, rfl, Or.inl ⟨rfl, predRun_value (exec_load_blk 48 (.tmp 6) rfl (A) rfl 48 _ (0, 0) _ hS.1 Tryd.underlying48 rfl (cells48 x0_0 x0_1 x0_2)) rfl⟩⟩
    · have h0 := h
      have e0 : γ 0 = plV x0_0 x0_1 x0_2 := h0
      refine ⟨_, rfl, Or.inl ⟨rfl, predRun_call (f := 32) (args := #[plV x0_0 x0_1 x0_2]) (by simp only [putE, e0]; go_simp) ?_⟩⟩
      exact (to_any x0_0 x0_1 x0_2 wx).mono fun e w2 ⟨h1, h2⟩ => ⟨_, h1, rfl, h2⟩
    · refine ⟨_, rfl, Or.inl ⟨rfl, predRun_value (v := .int .i64 x1) (by simp only [putE]; first | rfl | (go_simp; done) | (go_simp; with_reducible rfl) | (go_simp; rfl)) rfl⟩⟩
    · refine ⟨_, rfl, Or.inl ⟨rfl, predRun_value (exec_load_blk 32 (.tmp 10) rfl (A + 1) rfl 32 _ (0, 0) _ hS.2.1 Tryd.underlying32 rfl (cells49 HX4.out)) rfl⟩⟩
    · refine ⟨_, rfl, Or.inl ⟨rfl, predRun_value (v := .int .i64 x2) (by simp only [putE]; first | rfl | (go_simp; done) | (go_simp; with_reducible rfl) | (go_simp; rfl)) rfl⟩⟩
    · obtain ⟨h1, h2, h3, h4⟩ := h
      have e1 : γ 1 = plV x0_0 x0_1 x0_2 := h1
      have e2 : γ 2 = .int .i64 x1 := h2
      have e3 : γ 3 = dgV x4 := h3
      have e4 : γ 4 = .int .i64 x2 := h4
      refine ⟨_, rfl, Or.inl ⟨rfl, predRun_call (f := 31) (args := #[plV x0_0 x0_1 x0_2, .int .i64 x1, dgV x4, .int .i64 x2]) (by simp only [putE, e1, e2, e3, e4]; go_simp) ?_⟩⟩
      exact (up_any x0_0 x0_1 x0_2 x1 x4 x2 wx (HK.out.keep (by rw [← HA.out]; exact hS.2.2.2)) HE.out HS.out HX4.out HB4.out).mono fun e w2 ⟨h1, h2⟩ => ⟨_, h1, by show Value.tuple _ = Value.tuple _; rw [HZQ.out.1, HZQ.out.2], h2⟩
    · have h5 := h
      have e5 : γ 5 = .tuple #[dgV z, .int .i64 q] := h5
      refine ⟨_, rfl, Or.inl ⟨rfl, predRun_value (v := .tuple #[dgV z, .int .i64 q]) (by simp only [putE, e5]; first | rfl | (go_simp; done) | (go_simp; with_reducible rfl) | (go_simp; rfl)) rfl⟩⟩
    · have h6 := h
      have e6 : γ 6 = .tuple #[dgV z, .int .i64 q] := h6
      refine ⟨_, rfl, Or.inl ⟨rfl, predRun_value (v := dgV z) (by simp only [putE, e6]; first | rfl | (go_simp; done) | (go_simp; with_reducible rfl) | (go_simp; rfl)) rfl⟩⟩
    · have h6 := h
      have e6 : γ 6 = .tuple #[dgV z, .int .i64 q] := h6
      refine ⟨_, rfl, Or.inl ⟨rfl, predRun_value (v := .int .i64 q) (by simp only [putE, e6]; first | rfl | (go_simp; done) | (go_simp; with_reducible rfl) | (go_simp; rfl)) rfl⟩⟩
    · refine ⟨_, rfl, Or.inl ⟨rfl, predRun_new (w' := wx.alloc z50) (v := .pointer (some ⟨wx.heap.size, 0, none⟩)) (by simp only [putE]; first | rfl | (go_simp; done) | (go_simp; rfl)) (more (Below.refl _ _) _) ⟨_, rfl, hS.2.2.1.lt, Blk.new _ _⟩⟩⟩
  · refine ⟨fun γ wx hS h => ?_, trivial⟩
    · have h6 := h
      have e6 : γ 6 = .tuple #[dgV z, .int .i64 q] := h6
      refine ⟨_, .int .i64 q, rfl, Or.inl ⟨rfl, fun wz => by simp only [putE, e6]; first | rfl | (go_simp; done) | (go_simp; rfl)⟩, rfl⟩
  · intro γ w9 hS h
    have e7 : γ 7 = dgV z := h.2.2.2.2.2.2.2.1
    have e8 : γ 8 = .int .i64 q := h.2.2.2.2.2.2.2.2.1
    obtain ⟨g, e9, hAg, hg⟩ : ∃ g, γ 9 = .pointer (some ⟨g, 0, none⟩) ∧ A + 1 + 1 < g ∧ Row w9 g 33 .u8 (fill 16 []) := h.2.2.2.2.2.2.2.2.2
    simp only [putE, Act.put, List.setIfInBounds_toArray, List.set_cons_zero, List.set_cons_succ]
    rw [e7, e8, e9]
    have HGA : Kp (Row w9 g 33 .u8 (fill 16 [])) := ⟨hg⟩
    obtain ⟨W9, hW9⟩ : ∃ W9, W9 = w9.setRow g (kv .u8 z).toArray := ⟨_, rfl⟩
    have F0 : Kp (Blk W9 A (.cells #[.int .i64 x0_0, .int .u32 x0_1, .int .u32 x0_2] 48)) := ⟨by rw [hW9]; exact (setRow_other _ g A _ (by omega)).trans hS.1⟩
    have F1 : Kp (Row W9 (A + 1) 32 .u8 x4) := ⟨by rw [hW9]; exact Row.otherRow hS.2.1 (by omega) _⟩
    have F2 : Kp (Row W9 (A + 1 + 1) 32 .u8 x5) := ⟨by rw [hW9]; exact Row.otherRow hS.2.2.1 (by omega) _⟩
    have F3 : Kp (Row W9 g 33 .u8 z) := ⟨by rw [hW9]; exact HGA.out.setRow z⟩
    have F4 : Kp (Below A w W9) := ⟨by rw [hW9]; exact Below.row hS.2.2.2 (by omega) _⟩
    have HWk := Kp.mk hW9
    clear h hS e7 e8 e9 hg G1 G2 G3 G4 hW9
    refine wpOps_step rfl rfl ?_
    refine wp_store_row 33 (.tmp 13) (.tmp 24) rfl g (kv .u8 z).toArray rfl rfl 33 _ HGA.out HC50.out HZ50.out (kv_all _ _) ?_
    rw [← HWk.out]
    clear HWk HGA
    refine wpOps_step rfl rfl ?_
    refine wp_assign_end rfl rfl ?_
    refine wpOps_done ?_
    go_wp2_with first
      | (refine wpList_load_row rfl 48 (.tmp 6) rfl A rfl 48 _ (0, 0) _ F0.out Tryd.underlying48 rfl (cells48 x0_0 x0_1 x0_2) ?_)
      | (refine wpList_load_row rfl 32 (.tmp 10) rfl (A + 1) rfl 32 (kv .u8 x4).toArray (0, 0) _ F1.out Tryd.underlying32 rfl HC4.out ?_)
    refine (rup_any x0_0 x0_1 x0_2 x1 x4 x2 W9 HE.out HS.out HX4.out HB4.out).mono ?_
    rintro r w10 ⟨rfl, hb⟩
    rw [← HZQ.out.1, ← HZQ.out.2]
    have E0 := Kp.mk (F0.out.keep hb)
    have E1 := Kp.mk (F1.out.keep hb)
    have E2 := Kp.mk (F2.out.keep hb)
    have E3 := Kp.mk (F3.out.keep hb)
    have E4 : Kp (Below A w w10) := ⟨F4.out.trans (hb.mono (Nat.le_of_lt F0.out.lt))⟩
    clear hb F0 F1 F2 F3 F4
    obtain ⟨B, hB⟩ : ∃ B, B = w10.heap.size := ⟨_, rfl⟩
    obtain ⟨W, hW⟩ : ∃ W, W = (w10.alloc z49).setRow B (kv .u8 z).toArray := ⟨_, rfl⟩
    have hgB : g < B := by rw [hB]; exact E3.out.lt
    have hN : Row (w10.alloc z49) B 32 .u8 (fill 16 []) := Blk.newAt _ hB
    have G1 : Kp (Blk W A (.cells #[.int .i64 x0_0, .int .u32 x0_1, .int .u32 x0_2] 48)) := ⟨by rw [hW]; exact (setRow_other _ B A _ (by omega)).trans (Blk.old E0.out _)⟩
    have G2 : Kp (Row W (A + 1) 32 .u8 x4) := ⟨by rw [hW]; exact Row.otherRow (Row.alloc E1.out _) (by omega) _⟩
    have G3 : Kp (Row W (A + 1 + 1) 32 .u8 x5) := ⟨by rw [hW]; exact Row.otherRow (Row.alloc E2.out _) (by omega) _⟩
    have G5 : Kp (Row W g 33 .u8 z) := ⟨by rw [hW]; exact Row.otherRow (Row.alloc E3.out _) (by omega) _⟩
    have G6 : Kp (Row W B 32 .u8 z) := ⟨by rw [hW]; exact Row.setRow (k := .u8) (l := fill 16 []) hN _⟩
    have G4 : Kp (Below A w W) := ⟨by rw [hW]; exact Below.row (E4.out.alloc (Nat.le_of_lt E0.out.lt) _) (by omega) _⟩
    have HBe := Kp.mk hB
    have hW2 : W = (w10.alloc z49).setRow w10.heap.size (kv .u8 z).toArray := by rw [hW, hB]
    clear hN hW hB E0 E1 E2 E3 E4 hAg hgB
    go_wp2_with (refine wpList_store_row rfl 32 (.tmp 15) (.tmp 32) rfl w10.heap.size (kv .u8 z).toArray rfl rfl 32 _ (Blk.new w10 z49) HC49.out HZ49.out (kv_all _ _) ?_; refine wpl_world (· = W) hW2.symm ?_; clear hW2; intro W0 e0; rw [e0]; clear e0)
    rw [← HBe.out]
    clear HBe
    refine wp_region_pred (fun w' => Blk w' A (.cells #[.int .i64 x0_0, .int .u32 x0_1, .int .u32 x0_2] 48) ∧ Row w' (A + 1) 32 .u8 x4 ∧ Row w' (A + 1 + 1) 32 .u8 x5 ∧ Row w' g 33 .u8 z ∧ Row w' B 32 .u8 z ∧ Below A w w') lupsVs [48]
      (fun ι w' v => match ι with
        | 2 | 3 => v = .int .i64 q
        | 7 | 8 => v = dgV z
        | 12 | 13 | 18 | 27 | 28 | 33 => v = plV x0_0 x0_1 x0_2
        | 14 | 19 | 29 | 34 => v = .int .i64 x1
        | 15 | 20 | 30 | 35 => v = dgV x4
        | 16 | 21 => v = .int .i64 x3
        | 17 | 23 => v = dgV y
        | 31 | 36 => v = dgV x5
        | 32 | 38 => v = dgV j
        | 42 | 44 => v = .int .i64 x2
        | 43 | 45 => v = .int .i64 L
        | 22 => HoldsB w' w'.heap.size v (leafT x0_0 x0_1 x0_2 x1 x4 x3)
        | 37 => HoldsB w' w'.heap.size v (joinT x0_0 x0_1 x0_2 x1 x4 x5)
        | _ => v = .bool true)
      [[], [(0, some 34)], [(1, some 35)], [(1, some 35)], [(1, some 35), (2, some 36), (3, some 37)], [(1, some 35), (4, some 38)], [(1, some 35), (5, some 39)], [(6, some 40)], [(6, some 40)], [(6, some 40), (7, some 41), (8, some 42)], [(6, some 40), (9, some 43)], [(6, some 40), (10, some 44)], [(11, some 45)], [(11, some 45), (12, some 46)], [(11, some 45)], [(11, some 45)], [(11, some 45)], [(11, some 45), (13, some 47), (14, some 48), (15, some 49), (16, some 50)], [(11, some 45)], [(11, some 45)], [(11, some 45)], [(11, some 45)], [(11, some 45), (17, some 51), (18, some 52), (19, some 53), (20, some 54), (21, some 55)], [(11, some 45), (22, some 56)], [(11, some 45), (17, some 51), (23, some 57)], [(11, some 45), (24, some 58)], [(23, some 57), (25, some 59)], [(26, some 60)], [(26, some 60), (27, some 61)], [(26, some 60)], [(26, some 60)], [(26, some 60)], [(26, some 60), (28, some 62), (29, some 63), (30, some 64), (31, some 65)], [(26, some 60)], [(26, some 60)], [(26, some 60)], [(26, some 60)], [(26, some 60), (32, some 66), (33, some 67), (34, some 68), (35, some 69), (36, some 70)], [(26, some 60), (37, some 71)], [(26, some 60), (32, some 66), (38, some 72)], [(26, some 60), (39, some 73)], [(38, some 72), (40, some 74)], [(41, some 75)], [(41, some 75), (42, some 76)], [(41, some 75)], [(41, some 75), (43, some 77), (44, some 78)], [(41, some 75), (43, some 77), (45, some 79)], [(41, some 75), (46, some 80)]]
      [(0, some 34), (1, some 35), (2, some 36), (3, some 37), (4, some 38), (5, some 39), (6, some 40), (7, some 41), (8, some 42), (9, some 43), (10, some 44), (11, some 45), (12, some 46), (13, some 47), (14, some 48), (15, some 49), (16, some 50), (17, some 51), (18, some 52), (19, some 53), (20, some 54), (21, some 55), (22, some 56), (23, some 57), (24, some 58), (25, some 59), (26, some 60), (27, some 61), (28, some 62), (29, some 63), (30, some 64), (31, some 65), (32, some 66), (33, some 67), (34, some 68), (35, some 69), (36, some 70), (37, some 71), (38, some 72), (39, some 73), (40, some 74), (41, some 75), (42, some 76), (43, some 77), (44, some 78), (45, some 79), (46, some 80), (47, some 81)]
      (by kernel_rfl) (by kernel_rfl) (by kernel_rfl) (by kernel_rfl) (by kernel_rfl) (by kernel_rfl) (by decide) (by decide) (fun w1 w2 h hb => ⟨h.1.keep hb, h.2.1.keep hb, h.2.2.1.keep hb, h.2.2.2.1.keep hb, h.2.2.2.2.1.keep hb, h.2.2.2.2.2.trans (hb.mono (Nat.le_of_lt h.1.lt))⟩) ?_ ⟨G1.out.draw, G2.out.drew, G3.out.drew, G5.out.drew, G6.out.drew, G4.out.drew⟩ ?_ ?_
    · intro ι w1 w2 v h hb
      by_cases h22 : ι = 22
      · subst h22
        exact (HoldsB.keep h hb).mono hb.size
      by_cases h37 : ι = 37
      · subst h37
        exact (HoldsB.keep h hb).mono hb.size
      match ι, h22, h37, h with
      | 0, _, _, h => exact h
      | 1, _, _, h => exact h
      | 2, _, _, h => exact h
      | 3, _, _, h => exact h
      | 4, _, _, h => exact h
      | 5, _, _, h => exact h
      | 6, _, _, h => exact h
      | 7, _, _, h => exact h
      | 8, _, _, h => exact h
      | 9, _, _, h => exact h
      | 10, _, _, h => exact h
      | 11, _, _, h => exact h
      | 12, _, _, h => exact h
      | 13, _, _, h => exact h
      | 14, _, _, h => exact h
      | 15, _, _, h => exact h
      | 16, _, _, h => exact h
      | 17, _, _, h => exact h
      | 18, _, _, h => exact h
      | 19, _, _, h => exact h
      | 20, _, _, h => exact h
      | 21, _, _, h => exact h
      | 22, g, _, h => exact absurd rfl g
      | 23, _, _, h => exact h
      | 24, _, _, h => exact h
      | 25, _, _, h => exact h
      | 26, _, _, h => exact h
      | 27, _, _, h => exact h
      | 28, _, _, h => exact h
      | 29, _, _, h => exact h
      | 30, _, _, h => exact h
      | 31, _, _, h => exact h
      | 32, _, _, h => exact h
      | 33, _, _, h => exact h
      | 34, _, _, h => exact h
      | 35, _, _, h => exact h
      | 36, _, _, h => exact h
      | 37, _, g, h => exact absurd rfl g
      | 38, _, _, h => exact h
      | 39, _, _, h => exact h
      | 40, _, _, h => exact h
      | 41, _, _, h => exact h
      | 42, _, _, h => exact h
      | 43, _, _, h => exact h
      | 44, _, _, h => exact h
      | 45, _, _, h => exact h
      | 46, _, _, h => exact h
      | 47, _, _, h => exact h
      | _ + 48, _, _, h => exact h
    · refine ⟨fun γ wx hS h => ?_, fun γ wx hS h => ?_, fun γ wx hS h => ?_, fun γ wx hS h => ?_, fun γ wx hS h => ?_, fun γ wx hS h => ?_, fun γ wx hS h => ?_, fun γ wx hS h => ?_, fun γ wx hS h => ?_, fun γ wx hS h => ?_, fun γ wx hS h => ?_, fun γ wx hS h => ?_, fun γ wx hS h => ?_, fun γ wx hS h => ?_, fun γ wx hS h => ?_, fun γ wx hS h => ?_, fun γ wx hS h => ?_, fun γ wx hS h => ?_, fun γ wx hS h => ?_, fun γ wx hS h => ?_, fun γ wx hS h => ?_, fun γ wx hS h => ?_, fun γ wx hS h => ?_, fun γ wx hS h => ?_, fun γ wx hS h => ?_, fun γ wx hS h => ?_, fun γ wx hS h => ?_, fun γ wx hS h => ?_, fun γ wx hS h => ?_, fun γ wx hS h => ?_, fun γ wx hS h => ?_, fun γ wx hS h => ?_, fun γ wx hS h => ?_, fun γ wx hS h => ?_, fun γ wx hS h => ?_, fun γ wx hS h => ?_, fun γ wx hS h => ?_, fun γ wx hS h => ?_, fun γ wx hS h => ?_, fun γ wx hS h => ?_, fun γ wx hS h => ?_, fun γ wx hS h => ?_, fun γ wx hS h => ?_, fun γ wx hS h => ?_, fun γ wx hS h => ?_, fun γ wx hS h => ?_, fun γ wx hS h => ?_, fun γ wx hS h => ?_, trivial⟩
      · refine ⟨_, rfl, Or.inl ⟨rfl, predRun_call (f := 34) (args := #[]) (by simp only [putE]; go_simp) ?_⟩⟩
        exact (awake6 wx (HK.out.keep (by rw [← HA.out]; exact hS.2.2.2.2.2))).mono fun e w2 ⟨h1, h2⟩ => ⟨_, h1, rfl, h2⟩
      · have h0 := h
        have e0 : γ 0 = .bool true := h0
        refine ⟨_, rfl, Or.inl ⟨rfl, predRun_value (v := .bool true) (by simp only [putE, e0]; first | rfl | (go_simp; done) | (go_simp; with_reducible rfl) | (go_simp; rfl)) rfl⟩⟩
      · have h1 := h
        have e1 : γ 1 = .bool true := h1
        refine ⟨_, rfl, Or.inl ⟨(by simp only [putE, e1]; rfl), predRun_value (v := .int .i64 q) (by simp only [putE, e1]; first | rfl | (go_simp; done) | (go_simp; with_reducible rfl) | (go_simp; rfl)) rfl⟩⟩
      · have h1 := h
        have e1 : γ 1 = .bool true := h1
        refine ⟨_, rfl, Or.inl ⟨(by simp only [putE, e1]; rfl), predRun_value (v := .int .i64 q) (by simp only [putE, e1]; first | rfl | (go_simp; done) | (go_simp; with_reducible rfl) | (go_simp; rfl)) rfl⟩⟩
      · obtain ⟨h1, h2, h3⟩ := h
        have e1 : γ 1 = .bool true := h1
        have e2 : γ 2 = .int .i64 q := h2
        have e3 : γ 3 = .int .i64 q := h3
        refine ⟨_, rfl, Or.inl ⟨(by simp only [putE, e1, e2, e3]; rfl), predRun_value (v := .bool true) (by simp only [putE, e1, e2, e3]; have tq : (q == q) = true := (by simp); first | rfl | (go_simp; done) | (go_simp; with_reducible rfl) | (go_simp; rfl)) rfl⟩⟩
      · obtain ⟨h1, h4⟩ := h
        have e1 : γ 1 = .bool true := h1
        have e4 : γ 4 = .bool true := h4
        refine ⟨_, rfl, Or.inl ⟨rfl, predRun_value (v := .bool true) (by simp only [putE, e1, e4]; first | rfl | (go_simp; done) | (go_simp; with_reducible rfl) | (go_simp; rfl)) rfl⟩⟩
      · obtain ⟨h1, h5⟩ := h
        have e1 : γ 1 = .bool true := h1
        have e5 : γ 5 = .bool true := h5
        refine ⟨_, rfl, Or.inl ⟨rfl, predRun_value (v := .bool true) (by simp only [putE, e1, e5]; first | rfl | (go_simp; done) | (go_simp; with_reducible rfl) | (go_simp; rfl)) rfl⟩⟩
      · have h6 := h
        have e6 : γ 6 = .bool true := h6
        refine ⟨_, rfl, Or.inl ⟨(by simp only [putE, e6]; rfl), predRun_value (exec_load_blk 33 (.tmp 13) rfl (g) rfl 33 _ (0, 0) _ hS.2.2.2.1 Tryd.underlying33 rfl HC50.out) rfl⟩⟩
      · have h6 := h
        have e6 : γ 6 = .bool true := h6
        refine ⟨_, rfl, Or.inl ⟨(by simp only [putE, e6]; rfl), predRun_value (exec_load_blk 32 (.tmp 15) rfl (B) rfl 32 _ (0, 0) _ hS.2.2.2.2.1 Tryd.underlying32 rfl HC49.out) rfl⟩⟩
      · obtain ⟨h6, h7, h8⟩ := h
        have e6 : γ 6 = .bool true := h6
        have e7 : γ 7 = dgV z := h7
        have e8 : γ 8 = dgV z := h8
        refine ⟨_, rfl, Or.inl ⟨(by simp only [putE, e6, e7, e8]; rfl), predRun_value (v := .bool true) (by simp only [putE, e6, e7, e8]; have hq := HQZ.out; have hg := eqg50; first | rfl | (go_simp; done) | (go_simp; with_reducible rfl) | (go_simp; rfl)) rfl⟩⟩
      · obtain ⟨h6, h9⟩ := h
        have e6 : γ 6 = .bool true := h6
        have e9 : γ 9 = .bool true := h9
        refine ⟨_, rfl, Or.inl ⟨rfl, predRun_value (v := .bool true) (by simp only [putE, e6, e9]; first | rfl | (go_simp; done) | (go_simp; with_reducible rfl) | (go_simp; rfl)) rfl⟩⟩
      · obtain ⟨h6, h10⟩ := h
        have e6 : γ 6 = .bool true := h6
        have e10 : γ 10 = .bool true := h10
        refine ⟨_, rfl, Or.inl ⟨rfl, predRun_value (v := .bool true) (by simp only [putE, e6, e10]; first | rfl | (go_simp; done) | (go_simp; with_reducible rfl) | (go_simp; rfl)) rfl⟩⟩
      · have h11 := h
        have e11 : γ 11 = .bool true := h11
        refine ⟨_, rfl, Or.inl ⟨(by simp only [putE, e11]; rfl), predRun_value (exec_load_blk 48 (.tmp 6) rfl (A) rfl 48 _ (0, 0) _ hS.1 Tryd.underlying48 rfl (cells48 x0_0 x0_1 x0_2)) rfl⟩⟩
      · obtain ⟨h11, h12⟩ := h
        have e11 : γ 11 = .bool true := h11
        have e12 : γ 12 = plV x0_0 x0_1 x0_2 := h12
        refine ⟨_, rfl, Or.inl ⟨(by simp only [putE, e11, e12]; rfl), predRun_call (f := 32) (args := #[plV x0_0 x0_1 x0_2]) (by simp only [putE, e11, e12]; go_simp) ?_⟩⟩
        exact (to_any x0_0 x0_1 x0_2 wx).mono fun e w2 ⟨h1, h2⟩ => ⟨_, h1, rfl, h2⟩
      · have h11 := h
        have e11 : γ 11 = .bool true := h11
        refine ⟨_, rfl, Or.inl ⟨(by simp only [putE, e11]; rfl), predRun_value (v := .int .i64 x1) (by simp only [putE, e11]; first | rfl | (go_simp; done) | (go_simp; with_reducible rfl) | (go_simp; rfl)) rfl⟩⟩
      · have h11 := h
        have e11 : γ 11 = .bool true := h11
        refine ⟨_, rfl, Or.inl ⟨(by simp only [putE, e11]; rfl), predRun_value (exec_load_blk 32 (.tmp 10) rfl (A + 1) rfl 32 _ (0, 0) _ hS.2.1 Tryd.underlying32 rfl HC4.out) rfl⟩⟩
      · have h11 := h
        have e11 : γ 11 = .bool true := h11
        refine ⟨_, rfl, Or.inl ⟨(by simp only [putE, e11]; rfl), predRun_value (v := .int .i64 x3) (by simp only [putE, e11]; first | rfl | (go_simp; done) | (go_simp; with_reducible rfl) | (go_simp; rfl)) rfl⟩⟩
      · obtain ⟨h11, h13, h14, h15, h16⟩ := h
        have e11 : γ 11 = .bool true := h11
        have e13 : γ 13 = plV x0_0 x0_1 x0_2 := h13
        have e14 : γ 14 = .int .i64 x1 := h14
        have e15 : γ 15 = dgV x4 := h15
        have e16 : γ 16 = .int .i64 x3 := h16
        refine ⟨_, rfl, Or.inl ⟨(by simp only [putE, e11, e13, e14, e15, e16]; rfl), predRun_call (f := 35) (args := #[plV x0_0 x0_1 x0_2, .int .i64 x1, dgV x4, .int .i64 x3]) (by simp only [putE, e11, e13, e14, e15, e16]; go_simp) ?_⟩⟩
        exact (leaf_any x0_0 x0_1 x0_2 x1 x4 x3 wx (HK.out.keep (by rw [← HA.out]; exact hS.2.2.2.2.2)) HE.out HS.out HX4.out HB4.out).mono fun e w2 ⟨h1, h2⟩ => ⟨_, h1, by show dgV _ = dgV y; rw [HY.out], h2⟩
      · have h11 := h
        have e11 : γ 11 = .bool true := h11
        refine ⟨_, rfl, Or.inl ⟨(by simp only [putE, e11]; rfl), predRun_value (exec_load_blk 48 (.tmp 6) rfl (A) rfl 48 _ (0, 0) _ hS.1 Tryd.underlying48 rfl (cells48 x0_0 x0_1 x0_2)) rfl⟩⟩
      · have h11 := h
        have e11 : γ 11 = .bool true := h11
        refine ⟨_, rfl, Or.inl ⟨(by simp only [putE, e11]; rfl), predRun_value (v := .int .i64 x1) (by simp only [putE, e11]; first | rfl | (go_simp; done) | (go_simp; with_reducible rfl) | (go_simp; rfl)) rfl⟩⟩
      · have h11 := h
        have e11 : γ 11 = .bool true := h11
        refine ⟨_, rfl, Or.inl ⟨(by simp only [putE, e11]; rfl), predRun_value (exec_load_blk 32 (.tmp 10) rfl (A + 1) rfl 32 _ (0, 0) _ hS.2.1 Tryd.underlying32 rfl HC4.out) rfl⟩⟩
      · have h11 := h
        have e11 : γ 11 = .bool true := h11
        refine ⟨_, rfl, Or.inl ⟨(by simp only [putE, e11]; rfl), predRun_value (v := .int .i64 x3) (by simp only [putE, e11]; first | rfl | (go_simp; done) | (go_simp; with_reducible rfl) | (go_simp; rfl)) rfl⟩⟩
      · obtain ⟨h11, h17, h18, h19, h20, h21⟩ := h
        have e11 : γ 11 = .bool true := h11
        have e17 : γ 17 = dgV y := h17
        have e18 : γ 18 = plV x0_0 x0_1 x0_2 := h18
        have e19 : γ 19 = .int .i64 x1 := h19
        have e20 : γ 20 = dgV x4 := h20
        have e21 : γ 21 = .int .i64 x3 := h21
        refine ⟨_, rfl, Or.inl ⟨(by simp only [putE, e11, e17, e18, e19, e20, e21]; rfl), predRun_call (f := 37) (args := #[plV x0_0 x0_1 x0_2, .int .i64 x1, dgV x4, .int .i64 x3]) (by simp only [putE, e11, e17, e18, e19, e20, e21]; go_simp) ?_⟩⟩
        exact (rleafT_any x0_0 x0_1 x0_2 x1 x4 x3 wx HE.out HS.out HX4.out HB4.out).mono fun e w2 ⟨v', h1, h2, h3⟩ => ⟨_, h1, h2, h3⟩
      · obtain ⟨h11, h22⟩ := h
        have e11 : γ 11 = .bool true := h11
        have p22 : HoldsB wx wx.heap.size (γ 22) (leafT x0_0 x0_1 x0_2 x1 x4 x3) := h22
        refine ⟨_, rfl, Or.inl ⟨(by simp only [putE, e11]; rfl), predRun_call (f := 36) (args := #[γ 22]) (by simp only [putE, e11]; go_simp) ?_⟩⟩
        exact (of_any _ _ 76 _ wx p22 (by simp [placeL_len, HX4.out])).mono fun e w2 ⟨h1, h2⟩ => ⟨_, h1, by show dgV (shortL (leafT x0_0 x0_1 x0_2 x1 x4 x3)) = dgV y; rw [HY.out], h2⟩
      · obtain ⟨h11, h17, h23⟩ := h
        have e11 : γ 11 = .bool true := h11
        have e17 : γ 17 = dgV y := h17
        have e23 : γ 23 = dgV y := h23
        refine ⟨_, rfl, Or.inl ⟨(by simp only [putE, e11, e17, e23]; rfl), predRun_value (v := .bool true) (by simp only [putE, e11, e17, e23]; have hq := HQY.out; have hg := eqg50; first | rfl | (go_simp; done) | (go_simp; with_reducible rfl) | (go_simp; rfl)) rfl⟩⟩
      · obtain ⟨h11, h24⟩ := h
        have e11 : γ 11 = .bool true := h11
        have e24 : γ 24 = .bool true := h24
        refine ⟨_, rfl, Or.inl ⟨rfl, predRun_value (v := .bool true) (by simp only [putE, e11, e24]; first | rfl | (go_simp; done) | (go_simp; with_reducible rfl) | (go_simp; rfl)) rfl⟩⟩
      · obtain ⟨h23, h25⟩ := h
        have e23 : γ 23 = dgV y := h23
        have e25 : γ 25 = .bool true := h25
        refine ⟨_, rfl, Or.inl ⟨rfl, predRun_value (v := .bool true) (by simp only [putE, e23, e25]; first | rfl | (go_simp; done) | (go_simp; with_reducible rfl) | (go_simp; rfl)) rfl⟩⟩
      · have h26 := h
        have e26 : γ 26 = .bool true := h26
        refine ⟨_, rfl, Or.inl ⟨(by simp only [putE, e26]; rfl), predRun_value (exec_load_blk 48 (.tmp 6) rfl (A) rfl 48 _ (0, 0) _ hS.1 Tryd.underlying48 rfl (cells48 x0_0 x0_1 x0_2)) rfl⟩⟩
      · obtain ⟨h26, h27⟩ := h
        have e26 : γ 26 = .bool true := h26
        have e27 : γ 27 = plV x0_0 x0_1 x0_2 := h27
        refine ⟨_, rfl, Or.inl ⟨(by simp only [putE, e26, e27]; rfl), predRun_call (f := 32) (args := #[plV x0_0 x0_1 x0_2]) (by simp only [putE, e26, e27]; go_simp) ?_⟩⟩
        exact (to_any x0_0 x0_1 x0_2 wx).mono fun e w2 ⟨h1, h2⟩ => ⟨_, h1, rfl, h2⟩
      · have h26 := h
        have e26 : γ 26 = .bool true := h26
        refine ⟨_, rfl, Or.inl ⟨(by simp only [putE, e26]; rfl), predRun_value (v := .int .i64 x1) (by simp only [putE, e26]; first | rfl | (go_simp; done) | (go_simp; with_reducible rfl) | (go_simp; rfl)) rfl⟩⟩
      · have h26 := h
        have e26 : γ 26 = .bool true := h26
        refine ⟨_, rfl, Or.inl ⟨(by simp only [putE, e26]; rfl), predRun_value (exec_load_blk 32 (.tmp 10) rfl (A + 1) rfl 32 _ (0, 0) _ hS.2.1 Tryd.underlying32 rfl HC4.out) rfl⟩⟩
      · have h26 := h
        have e26 : γ 26 = .bool true := h26
        refine ⟨_, rfl, Or.inl ⟨(by simp only [putE, e26]; rfl), predRun_value (exec_load_blk 32 (.tmp 11) rfl (A + 1 + 1) rfl 32 _ (0, 0) _ hS.2.2.1 Tryd.underlying32 rfl HC5.out) rfl⟩⟩
      · obtain ⟨h26, h28, h29, h30, h31⟩ := h
        have e26 : γ 26 = .bool true := h26
        have e28 : γ 28 = plV x0_0 x0_1 x0_2 := h28
        have e29 : γ 29 = .int .i64 x1 := h29
        have e30 : γ 30 = dgV x4 := h30
        have e31 : γ 31 = dgV x5 := h31
        refine ⟨_, rfl, Or.inl ⟨(by simp only [putE, e26, e28, e29, e30, e31]; rfl), predRun_call (f := 38) (args := #[plV x0_0 x0_1 x0_2, .int .i64 x1, dgV x4, dgV x5]) (by simp only [putE, e26, e28, e29, e30, e31]; go_simp) ?_⟩⟩
        exact (join_any x0_0 x0_1 x0_2 x1 x4 x5 wx (HK.out.keep (by rw [← HA.out]; exact hS.2.2.2.2.2)) HE.out HS.out HX4.out HB4.out HX5.out HB5.out).mono fun e w2 ⟨h1, h2⟩ => ⟨_, h1, by show dgV _ = dgV j; rw [HJ.out], h2⟩
      · have h26 := h
        have e26 : γ 26 = .bool true := h26
        refine ⟨_, rfl, Or.inl ⟨(by simp only [putE, e26]; rfl), predRun_value (exec_load_blk 48 (.tmp 6) rfl (A) rfl 48 _ (0, 0) _ hS.1 Tryd.underlying48 rfl (cells48 x0_0 x0_1 x0_2)) rfl⟩⟩
      · have h26 := h
        have e26 : γ 26 = .bool true := h26
        refine ⟨_, rfl, Or.inl ⟨(by simp only [putE, e26]; rfl), predRun_value (v := .int .i64 x1) (by simp only [putE, e26]; first | rfl | (go_simp; done) | (go_simp; with_reducible rfl) | (go_simp; rfl)) rfl⟩⟩
      · have h26 := h
        have e26 : γ 26 = .bool true := h26
        refine ⟨_, rfl, Or.inl ⟨(by simp only [putE, e26]; rfl), predRun_value (exec_load_blk 32 (.tmp 10) rfl (A + 1) rfl 32 _ (0, 0) _ hS.2.1 Tryd.underlying32 rfl HC4.out) rfl⟩⟩
      · have h26 := h
        have e26 : γ 26 = .bool true := h26
        refine ⟨_, rfl, Or.inl ⟨(by simp only [putE, e26]; rfl), predRun_value (exec_load_blk 32 (.tmp 11) rfl (A + 1 + 1) rfl 32 _ (0, 0) _ hS.2.2.1 Tryd.underlying32 rfl HC5.out) rfl⟩⟩
      · obtain ⟨h26, h32, h33, h34, h35, h36⟩ := h
        have e26 : γ 26 = .bool true := h26
        have e32 : γ 32 = dgV j := h32
        have e33 : γ 33 = plV x0_0 x0_1 x0_2 := h33
        have e34 : γ 34 = .int .i64 x1 := h34
        have e35 : γ 35 = dgV x4 := h35
        have e36 : γ 36 = dgV x5 := h36
        refine ⟨_, rfl, Or.inl ⟨(by simp only [putE, e26, e32, e33, e34, e35, e36]; rfl), predRun_call (f := 39) (args := #[plV x0_0 x0_1 x0_2, .int .i64 x1, dgV x4, dgV x5]) (by simp only [putE, e26, e32, e33, e34, e35, e36]; go_simp) ?_⟩⟩
        exact (rjoinT_any x0_0 x0_1 x0_2 x1 x4 x5 wx HE.out HS.out HX4.out HB4.out HX5.out HB5.out).mono fun e w2 ⟨v', h1, h2, h3⟩ => ⟨_, h1, h2, h3⟩
      · obtain ⟨h26, h37⟩ := h
        have e26 : γ 26 = .bool true := h26
        have p37 : HoldsB wx wx.heap.size (γ 37) (joinT x0_0 x0_1 x0_2 x1 x4 x5) := h37
        refine ⟨_, rfl, Or.inl ⟨(by simp only [putE, e26]; rfl), predRun_call (f := 36) (args := #[γ 37]) (by simp only [putE, e26]; go_simp) ?_⟩⟩
        exact (of_any _ _ 74 _ wx p37 (by simp [placeL_len, HX4.out, HX5.out])).mono fun e w2 ⟨h1, h2⟩ => ⟨_, h1, by show dgV (shortL (joinT x0_0 x0_1 x0_2 x1 x4 x5)) = dgV j; rw [HJ.out], h2⟩
      · obtain ⟨h26, h32, h38⟩ := h
        have e26 : γ 26 = .bool true := h26
        have e32 : γ 32 = dgV j := h32
        have e38 : γ 38 = dgV j := h38
        refine ⟨_, rfl, Or.inl ⟨(by simp only [putE, e26, e32, e38]; rfl), predRun_value (v := .bool true) (by simp only [putE, e26, e32, e38]; have hq := HQJ.out; have hg := eqg50; first | rfl | (go_simp; done) | (go_simp; with_reducible rfl) | (go_simp; rfl)) rfl⟩⟩
      · obtain ⟨h26, h39⟩ := h
        have e26 : γ 26 = .bool true := h26
        have e39 : γ 39 = .bool true := h39
        refine ⟨_, rfl, Or.inl ⟨rfl, predRun_value (v := .bool true) (by simp only [putE, e26, e39]; first | rfl | (go_simp; done) | (go_simp; with_reducible rfl) | (go_simp; rfl)) rfl⟩⟩
      · obtain ⟨h38, h40⟩ := h
        have e38 : γ 38 = dgV j := h38
        have e40 : γ 40 = .bool true := h40
        refine ⟨_, rfl, Or.inl ⟨rfl, predRun_value (v := .bool true) (by simp only [putE, e38, e40]; first | rfl | (go_simp; done) | (go_simp; with_reducible rfl) | (go_simp; rfl)) rfl⟩⟩
      · have h41 := h
        have e41 : γ 41 = .bool true := h41
        refine ⟨_, rfl, Or.inl ⟨(by simp only [putE, e41]; rfl), predRun_value (v := .int .i64 x2) (by simp only [putE, e41]; first | rfl | (go_simp; done) | (go_simp; with_reducible rfl) | (go_simp; rfl)) rfl⟩⟩
      · obtain ⟨h41, h42⟩ := h
        have e41 : γ 41 = .bool true := h41
        have e42 : γ 42 = .int .i64 x2 := h42
        refine ⟨_, rfl, Or.inl ⟨(by simp only [putE, e41, e42]; rfl), predRun_call (f := 40) (args := #[.int .i64 x2]) (by simp only [putE, e41, e42]; go_simp) ?_⟩⟩
        exact (levels_any x2 wx).mono fun e w2 ⟨h1, h2⟩ => ⟨_, h1, by show Value.int _ _ = Value.int _ _; rw [HLv.out], h2 ▸ Below.refl _ _⟩
      · have h41 := h
        have e41 : γ 41 = .bool true := h41
        refine ⟨_, rfl, Or.inl ⟨(by simp only [putE, e41]; rfl), predRun_value (v := .int .i64 x2) (by simp only [putE, e41]; first | rfl | (go_simp; done) | (go_simp; with_reducible rfl) | (go_simp; rfl)) rfl⟩⟩
      · obtain ⟨h41, h43, h44⟩ := h
        have e41 : γ 41 = .bool true := h41
        have e43 : γ 43 = .int .i64 L := h43
        have e44 : γ 44 = .int .i64 x2 := h44
        refine ⟨_, rfl, Or.inl ⟨(by simp only [putE, e41, e43, e44]; rfl), predRun_call (f := 41) (args := #[.int .i64 x2]) (by simp only [putE, e41, e43, e44]; go_simp) ?_⟩⟩
        exact (rlevels_any x2 wx).mono fun e w2 ⟨h1, h2⟩ => ⟨_, h1, by show Value.int _ _ = Value.int _ _; rw [HLv.out], h2 ▸ Below.refl _ _⟩
      · obtain ⟨h41, h43, h45⟩ := h
        have e41 : γ 41 = .bool true := h41
        have e43 : γ 43 = .int .i64 L := h43
        have e45 : γ 45 = .int .i64 L := h45
        refine ⟨_, rfl, Or.inl ⟨(by simp only [putE, e41, e43, e45]; rfl), predRun_value (v := .bool true) (by simp only [putE, e41, e43, e45]; have tq : (L == L) = true := (by simp); first | rfl | (go_simp; done) | (go_simp; with_reducible rfl) | (go_simp; rfl)) rfl⟩⟩
      · obtain ⟨h41, h46⟩ := h
        have e41 : γ 41 = .bool true := h41
        have e46 : γ 46 = .bool true := h46
        refine ⟨_, rfl, Or.inl ⟨rfl, predRun_value (v := .bool true) (by simp only [putE, e41, e46]; first | rfl | (go_simp; done) | (go_simp; with_reducible rfl) | (go_simp; rfl)) rfl⟩⟩
    · intro γ w9 hS h
      have e47 : γ 47 = .bool true := h.2.2.2.2.2.2.2.2.2.2.2.2.2.2.2.2.2.2.2.2.2.2.2.2.2.2.2.2.2.2.2.2.2.2.2.2.2.2.2.2.2.2.2.2.2.2.2
      simp only [putE, Act.put, List.setIfInBounds_toArray, List.set_cons_zero, List.set_cons_succ]
      rw [e47]
      have HB9 := Kp.mk hS.2.2.2.2.2
      clear h hS e47
      refine wpOps_step rfl rfl ?_
      refine wp_assign_end rfl rfl ?_
      refine wpOps_done ?_
      go_wp2_with fail
      go_ret
      exact ⟨rfl, by rw [← HA.out]; exact HB9.out⟩
end Go.Proofs.YtahmioiefmheeaaDoor

namespace Go.Proofs.YtahmioiefmheeaaDoor
open Go.ChangeShapes Go.WideShapes Go.ChangeAt Go.RowKit

abbrev laidL : List (String × DataW Unit) := Rows.shaHexesRow.laid
theorem gKon : Tryd.prog.globalNamed ((Rows.shaHexesRow.laid.map (·.1)).headD default) = some 0 := by kernel_rfl
theorem tKon : (Tryd.prog.globals[0]?).map (·.type) = some 153 := by kernel_rfl
set_option maxRecDepth 100000 in
theorem laid_kon : (Rows.laid_fingerpost_sha_constants : DataW Unit) = .agg (kon.map fun k => .lit (.int .u32 k)) := rfl
set_option maxRecDepth 100000 in
theorem door_met (os : Os) (args : Array Value) : laidMetH Tryd.prog laidL ((World.doorLaid Tryd.prog 400 os).forCall (fun _ _ => 0) ⟨#[], args, []⟩).memory :=
  laidMetH_of_parts3 (fuel := 8) (laidMet_of_run' 8 (by kernel_rfl) (by kernel_rfl)) (by kernel_rfl) (by kernel_rfl)
theorem kon_of_laid {W : World} (h : laidMetH Tryd.prog laidL W) : KonIs W := by
  rw [MakeChecks.laidMetH_plain _ _ _ (by kernel_rfl)] at h
  obtain ⟨ps, ⟨g0, t0, cs0, f0, p0, q0, hg0, ht0, hv0, hd0, _, _⟩, _⟩ := h
  obtain rfl := Option.some.inj (gKon.symm.trans hg0)
  obtain rfl := Option.some.inj (tKon.symm.trans ht0)
  obtain ⟨xs, m, rfl, hx, hlen, hn, hel⟩ := DataW.trod_array Tryd.underlying153 hd0
  have c67 : Tryd.prog.cellsOf 46 = 1 := by kernel_rfl
  simp only [Prod.mk.injEq] at hx
  have hx1 := hx.1
  rw [laid_kon] at hx1
  simp only [DataW.agg.injEq] at hx1
  intro i hi
  have he := hel i hi
  rw [c67, Nat.mul_one] at he
  have hix : i < xs.length := by omega
  rw [List.getElem?_eq_getElem hix] at he
  obtain ⟨k, e1, e2, _⟩ := DataW.trod_int Tryd.underlying46 he
  have hk : (xs.map (·.1))[i]? = some (DataW.lit (.int .u32 k)) := by
    rw [List.getElem?_map, List.getElem?_eq_getElem hix]
    exact congrArg some (congrArg Prod.fst e2)
  rw [← hx1, List.getElem?_map, List.getElem?_eq_getElem (by rw [kon_len]; exact hi)] at hk
  simp at hk
  rw [World.var?_cell hg0 hv0 i]
  have h3 : cs0.toList[i]? = some (.int .u32 k) := by
    have h4 := congrArg (fun l : List Value => l[0]?) e1
    simp only [List.getElem?_take, List.getElem?_drop, Nat.lt_one_iff, if_true, Nat.add_zero] at h4
    simpa using h4
  rw [Array.getElem?_toList] at h3
  rw [h3, ← hk, List.getD_eq_getElem?_getD, List.getElem?_eq_getElem (by rw [kon_len]; exact hi)]
  rfl
end Go.Proofs.YtahmioiefmheeaaDoor
