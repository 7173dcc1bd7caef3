/-
  The document's Recover.
-/
import Derived.Test.YtpljjmdkagbjpaaDoorOd12
namespace Go.Proofs.YtpljjmdkagbjpaaDoor
open Go.RowKit

set_option maxRecDepth 100000 in
set_option maxHeartbeats 8000000 in
theorem rrecover_any (d x : Int) (m S : List Int) (w : World) (hx : 0 ≤ x ∧ x < 4294967296) (hm : m.length = 16) (hmb : Bytes m) (hS : S.length = 1088) (hSb : Bytes S) :
    Calls Tryd.prog 19 #[nameV d x, dgV m, .agg (kv .u8 S).toArray] w fun q w' => ∃ v, q = .returned (.tuple #[dgV (shortL (wholeT d x (recL d x m S 68))), v]) ∧ TextsO w' w.heap.size v (recTL d x m S 68 ++ [wholeT d x (recL d x m S 68)]) ∧ Below w.heap.size w w' := by
  have HX := Kp.mk hx
  have HM := Kp.mk (And.intro hm hmb)
  have HOK := Kp.mk (recL_ok d x m hS hSb)
  have hC := fun (w : World) => box_row (t := 43) (cs := kv .u8 S) (cellsT43 hS) w
  have hC2 := fun (w : World) => box_row (t := 25) (cs := kv .u8 m) (cellsT25 hm) w
  have HCm := Kp.mk (cellsT25 hm)
  clear hx hm hmb hS hSb
  go_enter Tryd.func19, Tryd.ntmps19
  go_wp2_with (first
    | (refine wpList_box_eq rfl 43 (.tmp 2) rfl _ rfl _ _ (hC _) ?_)
    | (refine wpList_box_eq rfl 25 (.tmp 1) rfl _ rfl _ _ (hC2 _) ?_)
    | (refine wpList_load_row rfl 25 (.tmp 4) rfl (w.heap.size + 1) rfl 25 (kv .u8 m).toArray (0, 0) _ (Blk.old (Blk.old (Blk.newAt _ (by simp)) _) _) Tryd.underlying25 rfl HCm.out ?_))
  obtain ⟨A, hA⟩ : ∃ A, A = w.heap.size := ⟨_, rfl⟩
  have HA := Kp.mk hA
  rw [← hA]
  refine calls_world (fun W => Blk W A (.cells #[.int .i64 d, .int .u32 x] 24) ∧ Row W (A + 2) 43 .u8 S ∧ Row W (A + 3) 25 .u8 (fill 16 []) ∧ Below A w W) ⟨?_, ?_, ?_, ?_⟩ ?_
  · exact Blk.old (Blk.old (Blk.old (Blk.newAt _ hA) _) _) _
  · exact Blk.old (Blk.newAt _ (by simp [hA])) _
  · exact Blk.newAt _ (by simp [hA])
  · rw [hA]; exact more (more (more (more (Below.refl _ _) _) _) _) _
  rw [show A + 1 + 1 + 1 = A + 3 from rfl, show A + 1 + 1 = A + 2 from rfl]
  clear hA hC hC2
  rintro W ⟨h1, h2, h3, h4⟩
  refine (rdigits_any m W HM.out.1 HM.out.2).mono ?_
  rintro r w1 ⟨rfl, hb⟩
  obtain ⟨B, hB⟩ : ∃ B, B = w1.heap.size := ⟨_, rfl⟩
  have HBe := Kp.mk hB
  have G1 := Kp.mk (Blk.keep h1 hb)
  have G2 := Kp.mk (h2.keep hb)
  have G3 := Kp.mk (h3.keep hb)
  have G4 : Kp (Below A w w1) := ⟨h4.trans (hb.mono (Nat.le_of_lt (Blk.lt h1)))⟩
  have hAB : A + 3 < B := by rw [hB]; exact G3.out.lt
  have HDG : Kp (∀ c, c < 68 → (digS m).getD c 0 = digA m c) := ⟨fun c hc => digS_at m hc⟩
  have HDl : Kp ((digS m).length = 68) := ⟨digS_len m⟩
  generalize digS m = dl at *
  have HC51 : Kp ((Tryd.prog.info? 51).map (·.size) = some (kv .u8 dl).toArray.size) := ⟨by rw [show (kv .u8 dl).toArray.size = 68 by simp [HDl.out]]; exact size33⟩
  have HZ51 : Kp ((kv .u8 (List.replicate 68 0)).toArray.size = (kv .u8 dl).toArray.size) := ⟨by rw [kv_size, kv_size, HDl.out]; simp⟩
  clear h1 h2 h3 h4 hb
  go_wp2_with (first
    | (refine wpList_alloc_row rfl 51 rfl _ _ info33 ?_; rw [← hB]; clear hB; refine wpl_world (fun w2 => Row w2 B 51 .u8 (List.replicate 68 0) ∧ Blk w2 A (.cells #[.int .i64 d, .int .u32 x] 24) ∧ Row w2 (A + 2) 43 .u8 S ∧ Row w2 (A + 3) 25 .u8 (fill 16 []) ∧ Below A w w2) ⟨Blk.newAt _ HBe.out, G1.out.old _, G2.out.alloc _, G3.out.alloc _, G4.out.alloc (by have := HBe.out; omega) _⟩ ?_; rintro W2 ⟨h0, h1, h2, h3, h4⟩; have K0 := Kp.mk h0; have K1 := Kp.mk h1; have K2 := Kp.mk h2; have K3 := Kp.mk h3; have K4 := Kp.mk h4; clear h0 h1 h2 h3 h4)
    | (refine wpList_store_row rfl 51 (.tmp 8) (.tmp 15) rfl B (kv .u8 dl).toArray rfl rfl 51 _ K0.out HC51.out HZ51.out (kv_all _ _) ?_; refine wpl_world (fun w2 => Row w2 B 51 .u8 dl ∧ Blk w2 A (.cells #[.int .i64 d, .int .u32 x] 24) ∧ Row w2 (A + 2) 43 .u8 S ∧ Row w2 (A + 3) 25 .u8 (fill 16 []) ∧ Below A w w2) ⟨K0.out.setRow dl, (setRow_other W2 B A _ (by omega)).trans K1.out, Row.otherRow K2.out (by omega) _, Row.otherRow K3.out (by omega) _, Below.row K4.out (by omega) _⟩ ?_; rintro W3 ⟨h0, h1, h2, h3, h4⟩; have L0 := Kp.mk h0; have L1 := Kp.mk h1; have L2 := Kp.mk h2; have L3 := Kp.mk h3; have L4 := Kp.mk h4; clear h0 h1 h2 h3 h4 K0 K1 K2 K3 K4))
  clear G1 G2 G3 G4
  go_loopw [9, 10] (fun v9 c10 wr => ∃ k : Nat, k ≤ 68 ∧ c10 = .int .i64 k ∧ Kp (TextsO wr (B + 1) v9 (recTL d x m S k)) ∧ Kp (Blk wr A (.cells #[.int .i64 d, .int .u32 x] 24)) ∧ Kp (Row wr (A + 2) 43 .u8 (recL d x m S k)) ∧ Kp (Row wr (A + 3) 25 .u8 (fill 16 [])) ∧ Kp (Row wr B 51 .u8 dl) ∧ Kp (Below A w wr)) (fun _ c _ => 68 - (intOf c).toNat)
  case atStart => exact ⟨0, by omega, rfl, ⟨TextsO.nil _ _⟩, L1, L2, L3, L0, L4⟩
  case round =>
    obtain ⟨k, hk, rfl, F0, F1, F2, F3, F5, F4⟩ := hrel
    clear L0 L1 L2 L3 L4
    have HYk := Kp.mk (HOK.out k hk)
    by_cases hlt : k < 68
    · have hdk0 := HDG.out k hlt
      have HYn := Kp.mk (show recL d x m S (k + 1) = splice (recL d x m S k) (k * 16) (runS d x k (dgt m k) (linkAt (recL d x m S k) k) (3 - dgt m k)) from rfl)
      have HTn := Kp.mk (show recTL d x m S (k + 1) = recTL d x m S k ++ runT d x k (dgt m k) (linkAt (recL d x m S k) k) (3 - dgt m k) from rfl)
      have HTH := Kp.mk (recTL_heads d x m S k)
      have HTL : Kp ((recTL d x m S k).length ≤ 204) := ⟨by have := recTL_len d x m S k; omega⟩
      generalize recTL d x m S k = ts at *
      generalize recL d x m S k = y at *
      have HYl : Kp (y.length = 1088) := ⟨HYk.out.1⟩
      obtain ⟨z, hz⟩ : ∃ z, z = linkAt y k := ⟨_, rfl⟩
      rw [← hz] at HYn HTn
      have HZ : Kp (z = (y.drop (k * 16)).take 16) := ⟨hz⟩
      have HZl : Kp (z.length = 16) := ⟨by rw [hz]; exact linkAt_len HYk.out.1 hlt⟩
      have HZb : Kp (Bytes z) := ⟨by rw [hz]; exact linkAt_bytes HYk.out.2 k⟩
      obtain ⟨hg1, hg2⟩ := dgt_is m k
      rw [← hg1] at hdk0
      generalize dgt m k = g at *
      have hdk := Kp.mk hdk0
      obtain ⟨u, hu⟩ : ∃ u, u = runS d x k g z (3 - g) := ⟨_, rfl⟩
      rw [← hu] at HYn
      have HU := Kp.mk hu
      have HUl : Kp (u.length = 16) := ⟨by rw [hu]; exact runS_len d x k g HZl.out _⟩
      obtain ⟨tz, htz⟩ : ∃ tz, tz = runT d x k g z (3 - g) := ⟨_, rfl⟩
      rw [← htz] at HTn
      have HTZ := Kp.mk htz
      have HZH : Kp (Heads tz) := ⟨by rw [htz]; exact runT_heads _ _ _ _ _ _⟩
      have HTZl : Kp (tz.length ≤ 3) := ⟨by rw [htz, runT_len]; omega⟩
      have HC := Kp.mk (cellsT25 HUl.out)
      have HZ16 := Kp.mk (size50 HUl.out)
      clear hz hu hg1 htz hdk0
      have hlt' : (k : Int) < 68 := by omega
      obtain ⟨D, hD⟩ : ∃ D, D = wr.heap.size := ⟨_, rfl⟩
      have HD : Kp (D ≤ wr.heap.size) := ⟨by omega⟩
      have HDlo : Kp (B + 1 ≤ D) := ⟨by rw [hD]; exact F5.out.lt⟩
      have HOB : Kp (∀ g, u9.ownBlock = some g → g < D) := ⟨fun g hg => by rw [hD]; exact F0.out.lt g hg⟩
      clear hD
      go_wp2_with fail
      refine wp_region_predQ (fun w' => Blk w' A (.cells #[.int .i64 d, .int .u32 x] 24) ∧ Row w' (A + 2) 43 .u8 y ∧ Row w' (A + 3) 25 .u8 (fill 16 []) ∧ Row w' B 51 .u8 dl ∧ TextsO w' (B + 1) u9 ts ∧ D ≤ w'.heap.size ∧ Below A w w') [0, 1, 2, 3, 4, 5, 6, 7, 8, 9, 10, 11, 12, 13] [12] [14, 15]
        (fun ι w' v => match ι with
          | 0 => v = nameV d x
          | 1 | 2 | 6 => v = .int .i64 k
          | 3 => v = .pointer (some ⟨B, k, none⟩)
          | 4 => v = .int .u8 g
          | 5 => v = .int .i64 g
          | 7 => v = .pointer (some ⟨A + 2, k * 16, none⟩)
          | 8 => v = dgV z
          | 11 => v = dgV u
          | 9 => ∃ t Q, v = .tuple #[dgV u, t] ∧ D ≤ Q ∧ TextsO w' Q t tz
          | 10 => ∃ t Q, v = .tuple #[dgV u, t] ∧ D ≤ Q ∧ TextsO w' Q t tz
          | 12 => ∃ Q, D ≤ Q ∧ TextsO w' Q v tz
          | 13 => ∃ gq, v = .pointer (some ⟨gq, 0, none⟩) ∧ B < gq ∧ Row w' gq 25 .u8 (fill 16 [])
          | _ => v = .bool true)
        [[], [], [], [(2, some 23)], [(3, some 24)], [(4, some 25)], [], [(6, some 27)], [(7, some 28)], [(0, some 21), (1, some 22), (5, some 26), (8, some 29)], [(9, some 30)], [(10, some 20)], [(10, some 20)], []]
        [[(10, some 20)]]
        [(0, some 21), (1, some 22), (2, some 23), (3, some 24), (4, some 25), (5, some 26), (6, some 27), (7, some 28), (8, some 29), (9, some 30), (10, some 20), (11, some 31), (12, some 32), (13, some 11)]
        (by kernel_rfl) (by kernel_rfl) (by kernel_rfl) (by kernel_rfl) (by kernel_rfl) (by kernel_rfl) (by kernel_rfl) (by decide) (by decide) (fun w1 w2 h hb => ⟨h.1.keep hb, h.2.1.keep hb, h.2.2.1.keep hb, h.2.2.2.1.keep hb, h.2.2.2.2.1.below hb, Nat.le_trans h.2.2.2.2.2.1 hb.size, h.2.2.2.2.2.2.trans (hb.mono (Nat.le_of_lt h.1.lt))⟩) (fun c a w d v h => by cases d <;> exact h) ?_ ⟨F1.out.draw, F2.out.drew, F3.out.drew, F5.out.drew, F0.out.drew, HD.out, F4.out.drew⟩ ?_ ?_ ?_
      · intro ι w1 w2 v h hb
        by_cases h9 : ι = 9
        · subst h9
          exact (show ∃ t Q, _ ∧ D ≤ Q ∧ TextsO w2 Q t tz from (by obtain ⟨t, Q, e, hq, ht⟩ := h; exact ⟨t, Q, e, hq, ht.below hb⟩))
        by_cases h10 : ι = 10
        · subst h10
          exact (show ∃ t Q, _ ∧ D ≤ Q ∧ TextsO w2 Q t tz from (by obtain ⟨t, Q, e, hq, ht⟩ := h; exact ⟨t, Q, e, hq, ht.below hb⟩))
        by_cases h12 : ι = 12
        · subst h12
          exact (show ∃ Q, D ≤ Q ∧ TextsO w2 Q v tz from (by obtain ⟨Q, hq, ht⟩ := h; exact ⟨Q, hq, ht.below hb⟩))
        by_cases h13 : ι = 13
        · subst h13
          exact (show ∃ gq, v = .pointer (some ⟨gq, 0, none⟩) ∧ B < gq ∧ Row w2 gq 25 .u8 (fill 16 []) from (by obtain ⟨gq, e, h1, hg⟩ := h; exact ⟨gq, e, h1, hg.keep hb⟩))
        match ι, h9, h10, h12, h13, h with
        | 0, _, _, _, _, h => exact h
        | 1, _, _, _, _, h => exact h
        | 2, _, _, _, _, h => exact h
        | 3, _, _, _, _, h => exact h
        | 4, _, _, _, _, h => exact h
        | 5, _, _, _, _, h => exact h
        | 6, _, _, _, _, h => exact h
        | 7, _, _, _, _, h => exact h
        | 8, _, _, _, _, h => exact h
        | 9, g, _, _, _, h => exact absurd rfl g
        | 10, _, g, _, _, h => exact absurd rfl g
        | 11, _, _, _, _, h => exact h
        | 12, _, _, g, _, h => exact absurd rfl g
        | 13, _, _, _, g, h => exact absurd rfl g
        | _ + 14, _, _, _, _, h => exact h
      · refine ⟨fun γ wx hS h => ?_, fun γ wx hS h => ?_, fun γ wx hS h => ?_, fun γ wx hS h => ?_, fun γ wx hS h => ?_, fun γ wx hS h => ?_, fun γ wx hS h => ?_, fun γ wx hS h => ?_, fun γ wx hS h => ?_, fun γ wx hS h => ?_, fun γ wx hS h => ?_, fun γ wx hS h => ?_, fun γ wx hS h => ?_, fun γ wx hS h => ?_, trivial⟩
        · refine ⟨_, rfl, Or.inl ⟨rfl, predRun_value (exec_load_blk 24 (.tmp 3) rfl (A) rfl 24 _ (0, 0) _ hS.1 Tryd.underlying24 rfl (cellsN24 d x)) rfl⟩⟩
        · refine ⟨_, rfl, Or.inl ⟨rfl, predRun_value (v := .int .i64 k) (by simp only [putE]; first | rfl | (go_simp; done) | (go_simp; with_reducible rfl) | (go_simp; rfl)) rfl⟩⟩
        · refine ⟨_, rfl, Or.inl ⟨rfl, predRun_value (v := .int .i64 k) (by simp only [putE]; first | rfl | (go_simp; done) | (go_simp; with_reducible rfl) | (go_simp; rfl)) rfl⟩⟩
        · have h2 := h
          have e2 : γ 2 = .int .i64 k := h2
          refine ⟨_, rfl, ?_⟩
          refine predOp_val (v := .pointer (some ⟨B, k, none⟩)) ?_ ?_ ?_
          · kernel_rfl
          · simp only [putE, e2]
            go_simp
          · rfl
        · have h3 := h
          have e3 : γ 3 = .pointer (some ⟨B, k, none⟩) := h3
          have hcell := hS.2.2.2.1.cell (i := k) (by rw [HDl.out]; exact hlt)
          rw [hdk.out] at hcell
          refine ⟨_, rfl, ?_⟩
          refine predOp_val (v := .int .u8 g) ?_ ?_ ?_
          · kernel_rfl
          · simp only [putE, e3]
            go_simp
          · rfl
        · have h4 := h
          have e4 : γ 4 = .int .u8 g := h4
          refine ⟨_, rfl, Or.inl ⟨rfl, predRun_value (v := .int .i64 g) (by simp only [putE, e4]; go_simp; exact IntWalk.i64_in _ (by omega)) rfl⟩⟩
        · refine ⟨_, rfl, Or.inl ⟨rfl, predRun_value (v := .int .i64 k) (by simp only [putE]; first | rfl | (go_simp; done) | (go_simp; with_reducible rfl) | (go_simp; rfl)) rfl⟩⟩
        · have h6 := h
          have e6 : γ 6 = .int .i64 k := h6
          refine ⟨_, rfl, ?_⟩
          refine predOp_val (v := .pointer (some ⟨A + 2, k * 16, none⟩)) ?_ ?_ ?_
          · kernel_rfl
          · simp only [putE, e6]
            go_simp
          · rfl
        · have h7 := h
          have e7 : γ 7 = .pointer (some ⟨A + 2, k * 16, none⟩) := h7
          refine ⟨_, rfl, Or.inl ⟨rfl, predRun_value (v := dgV z) (exec_load_mid (cs := kv .u8 z) rfl (by simp only [putE, e7]; rfl) (by rw [HZ.out]; exact hS.2.1.mid (by rw [HYl.out]; omega)) Tryd.underlying25 rfl (cellsLT25 HZl.out)) rfl⟩⟩
        · obtain ⟨h0, h1, h5, h8⟩ := h
          have e0 : γ 0 = nameV d x := h0
          have e1 : γ 1 = .int .i64 k := h1
          have e5 : γ 5 = .int .i64 g := h5
          have e8 : γ 8 = dgV z := h8
          refine ⟨_, rfl, Or.inl ⟨rfl, predRun_call (f := 22) (args := #[nameV d x, .int .i64 k, .int .i64 g, .int .i64 3, dgV z]) (by simp only [putE, e0, e1, e5, e8]; go_simp) ?_⟩⟩
          exact (rrun_any d x k g 3 z wx HX.out (by omega) (by omega) HZl.out HZb.out).mono fun e w2 ⟨v, h1, h2, h3⟩ => ⟨_, h1, ⟨v, wx.heap.size, (show Value.tuple #[dgV (runS d x k g z (3 - g)), v] = _ by rw [HU.out]), hS.2.2.2.2.2.1, (show TextsO w2 wx.heap.size v tz by rw [HTZ.out]; exact h2)⟩, h3⟩
        · have h9 := h
          have p9 : ∃ t Q, (γ 9) = .tuple #[dgV u, t] ∧ D ≤ Q ∧ TextsO wx Q t tz := h9
          obtain ⟨t, Q, e9, hq, ht⟩ := p9
          refine ⟨_, rfl, Or.inl ⟨rfl, predRun_value (v := .tuple #[dgV u, t]) (by simp only [putE, e9]; first | rfl | (go_simp; done) | (go_simp; rfl)) ⟨t, Q, rfl, hq, ht⟩⟩⟩
        · have h10 := h
          have p10 : ∃ t Q, (γ 10) = .tuple #[dgV u, t] ∧ D ≤ Q ∧ TextsO wx Q t tz := h10
          obtain ⟨t, Q, e10, hq, ht⟩ := p10
          refine ⟨_, rfl, Or.inl ⟨rfl, predRun_value (v := dgV u) (by simp only [putE, e10]; first | rfl | (go_simp; done) | (go_simp; rfl)) rfl⟩⟩
        · have h10 := h
          have p10 : ∃ t Q, (γ 10) = .tuple #[dgV u, t] ∧ D ≤ Q ∧ TextsO wx Q t tz := h10
          obtain ⟨t, Q, e10, hq, ht⟩ := p10
          refine ⟨_, rfl, Or.inl ⟨rfl, predRun_value (v := t) (by simp only [putE, e10]; first | rfl | (go_simp; done) | (go_simp; rfl)) ⟨Q, hq, ht⟩⟩⟩
        · refine ⟨_, rfl, Or.inl ⟨rfl, predRun_new (w' := wx.alloc z16r) (v := .pointer (some ⟨wx.heap.size, 0, none⟩)) (by simp only [putE]; first | rfl | (go_simp; done) | (go_simp; rfl)) (more (Below.refl _ _) _) ⟨_, rfl, hS.2.2.2.1.lt, Blk.new _ _⟩⟩⟩
      · refine ⟨fun γ wx hS h => ?_, trivial⟩
        · have h10 := h
          have p10 : ∃ t Q, (γ 10) = .tuple #[dgV u, t] ∧ D ≤ Q ∧ TextsO wx Q t tz := h10
          obtain ⟨t, Q, e10, hq, ht⟩ := p10
          refine ⟨_, t, rfl, Or.inl ⟨rfl, fun wz => by simp only [putE, e10]; first | rfl | (go_simp; done) | (go_simp; rfl)⟩, ⟨Q, hq, ht⟩⟩
      · intro γ w9 hS h
        have e11 : γ 11 = dgV u := h.2.2.2.2.2.2.2.2.2.2.2.1
        obtain ⟨Q, hDQ, h12⟩ : ∃ Q, D ≤ Q ∧ TextsO w9 Q (γ 12) tz := h.2.2.2.2.2.2.2.2.2.2.2.2.1
        obtain ⟨gq, e13, hAg, hg⟩ : ∃ gq, γ 13 = .pointer (some ⟨gq, 0, none⟩) ∧ B < gq ∧ Row w9 gq 25 .u8 (fill 16 []) := h.2.2.2.2.2.2.2.2.2.2.2.2.2
        simp only [putE, Act.put, List.setIfInBounds_toArray, List.set_cons_zero, List.set_cons_succ]
        rw [e11, e13]
        have HGA : Kp (Row w9 gq 25 .u8 (fill 16 [])) := ⟨hg⟩
        obtain ⟨W9, hW9⟩ : ∃ W9, W9 = w9.setRow gq (kv .u8 u).toArray := ⟨_, rfl⟩
        have EG : Kp (Row W9 gq 25 .u8 u) := ⟨by rw [hW9]; exact HGA.out.setRow u⟩
        have E0 : Kp (TextsO W9 (B + 1) u9 ts) := ⟨by rw [hW9]; exact hS.2.2.2.2.1.zero hg HTH.out _⟩
        have ET : Kp (TextsO W9 Q (γ 12) tz) := ⟨by rw [hW9]; exact h12.zero hg HZH.out _⟩
        have E1 : Kp (Blk W9 A (.cells #[.int .i64 d, .int .u32 x] 24)) := ⟨by rw [hW9]; exact (setRow_other w9 gq A _ (by omega)).trans hS.1⟩
        have E2 : Kp (Row W9 (A + 2) 43 .u8 y) := ⟨by rw [hW9]; exact Row.otherRow hS.2.1 (by omega) _⟩
        have E3 : Kp (Row W9 (A + 3) 25 .u8 (fill 16 [])) := ⟨by rw [hW9]; exact Row.otherRow hS.2.2.1 (by omega) _⟩
        have E5 : Kp (Row W9 B 51 .u8 dl) := ⟨by rw [hW9]; exact Row.otherRow hS.2.2.2.1 (by omega) _⟩
        have E6 : Kp (D ≤ W9.heap.size) := ⟨by rw [hW9]; simpa [World.setRow] using hS.2.2.2.2.2.1⟩
        have E4 : Kp (Below A w W9) := ⟨by rw [hW9]; exact Below.row hS.2.2.2.2.2.2 (by omega) _⟩
        have HWk := Kp.mk hW9
        have HDQ := Kp.mk hDQ
        clear h hS e11 e13 h12 hg F0 F1 F2 F3 F4 F5 hW9 hDQ
        generalize γ 12 = v12 at *
        refine wpOps_step rfl rfl ?_
        refine wp_store_row 25 (.tmp 11) (.tmp 31) rfl gq (kv .u8 u).toArray rfl rfl 25 _ HGA.out HC.out HZ16.out (kv_all _ _) ?_
        rw [← HWk.out]
        clear HWk HGA
        refine wpOps_step rfl rfl ?_
        refine wp_assign_end rfl rfl ?_
        refine wpOps_done ?_
        have HTHR := Kp.mk (E2.out.there (o := k * 16) (n := 16) (by rw [HYl.out]; omega))
        obtain ⟨V, hV⟩ : ∃ V, V = W9.setCells (A + 2) (k * 16) (kv .u8 u) := ⟨_, rfl⟩
        have D0 : Kp (TextsO V (B + 1) u9 ts) := ⟨by rw [hV]; exact E0.out.mid (by omega) _ _⟩
        have DT : Kp (TextsO V Q v12 tz) := ⟨by rw [hV]; exact ET.out.mid (by have := HDQ.out; have := HDlo.out; omega) _ _⟩
        have D1 : Kp (Blk V A (.cells #[.int .i64 d, .int .u32 x] 24)) := ⟨by rw [hV]; exact Blk.otherCells (by omega) _ _ _ E1.out⟩
        have D2 : Kp (Row V (A + 2) 43 .u8 (splice y (k * 16) u)) := ⟨by rw [hV]; exact Row.setCells u (k * 16) W9 y (by rw [HYl.out, HUl.out]; omega) E2.out⟩
        have D3 : Kp (Row V (A + 3) 25 .u8 (fill 16 [])) := ⟨by rw [hV]; exact Row.otherCells (by omega) _ _ _ E3.out⟩
        have D5 : Kp (Row V B 51 .u8 dl) := ⟨by rw [hV]; exact Row.otherCells (by omega) _ _ _ E5.out⟩
        have D4 : Kp (Below A w V) := ⟨by rw [hV]; exact Below.cells (by omega) _ _ _ _ E4.out⟩
        have D6 : Kp (B + 1 ≤ V.heap.size) := ⟨D5.out.lt⟩
        have HV := Kp.mk hV.symm
        clear hV E0 ET E1 E2 E3 E4 E5 E6
        go_wp2_with (first
          | (refine wpList_load_row rfl 25 (.tmp 11) rfl gq rfl 25 (kv .u8 u).toArray (0, 0) _ EG.out Tryd.underlying25 rfl HC.out ?_)
          | (refine wpList_store_mid rfl 25 (.tmp 35) (.tmp 34) rfl (A + 2) (k * 16) (kv .u8 u).toArray rfl rfl (by rw [kv_size, HUl.out]; exact HTHR.out) HC.out (kv_all _ _) ?_; refine wpl_world (· = V) HV.out ?_; clear HV; intro W0 e0; rw [e0]; clear e0)
          | (at_builtin; refine wpList_append_textsO rfl _ _ rfl (B + 1) u9 ts rfl D0.out Q v12 tz rfl DT.out ?c0 ?c1 ?c2 D6.out ?_))
        case c0 => have := HDQ.out; have := HDlo.out; omega
        case c1 => exact fun g hg => Nat.lt_of_lt_of_le (HOB.out g hg) HDQ.out
        case c2 => have := HTL.out; have := HTZl.out; omega
        intro v9' w9' k1 k2
        have X0 : Kp (TextsO w9' (B + 1) v9' (recTL d x m S (k + 1))) := ⟨by rw [HTn.out]; exact k1⟩
        have X1 : Kp (Blk w9' A (.cells #[.int .i64 d, .int .u32 x] 24)) := ⟨D1.out.upto k2 (by omega)⟩
        have X2 : Kp (Row w9' (A + 2) 43 .u8 (recL d x m S (k + 1))) := ⟨by rw [HYn.out]; exact D2.out.upto k2 (by omega)⟩
        have X3 : Kp (Row w9' (A + 3) 25 .u8 (fill 16 [])) := ⟨D3.out.upto k2 (by omega)⟩
        have X5 : Kp (Row w9' B 51 .u8 dl) := ⟨D5.out.upto k2 (by omega)⟩
        have X4 : Kp (Below A w w9') := ⟨D4.out.trans (k2.mono (by omega))⟩
        clear k1 k2 D0 DT D1 D2 D3 D4 D5 D6 HYn HTn
        go_wp2_with fail
        exact ⟨⟨k + 1, by omega, by go_num, X0, X1, X2, X3, X5, X4⟩, by simp [intOf]; omega⟩
    · obtain rfl : k = 68 := by omega
      have hge : ¬ ((68 : Nat) : Int) < 68 := by omega
      clear HOK
      have HTL : Kp ((recTL d x m S 68).length ≤ 204) := ⟨recTL_len d x m S 68⟩
      generalize hts : recTL d x m S 68 = ts at *
      generalize hy : recL d x m S 68 = y at *
      have HTS := Kp.mk hts
      have HYS := Kp.mk hy
      clear hts hy
      have HYl : Kp (y.length = 1088) := ⟨HYk.out.1⟩
      have HYb : Kp (Bytes y) := ⟨HYk.out.2⟩
      go_wp2_with (first
        | (refine wpList_load_row rfl 24 (.tmp 3) rfl A rfl 24 _ (0, 0) _ F1.out Tryd.underlying24 rfl (cellsN24 d x) ?_)
        | (refine wpList_load_row rfl 43 (.tmp 5) rfl (A + 2) rfl 43 (kv .u8 y).toArray (0, 0) _ F2.out Tryd.underlying43 rfl (cellsT43 HYl.out) ?_))
      refine (press_any d x y wr HX.out HYl.out HYb.out).mono ?_
      rintro q w3 ⟨v3, rfl, hh, hfr, hb⟩
      have HWL : Kp ((wholeT d x y).length = 1094) := ⟨by simp [wholeT, headL_len, HYl.out]⟩
      obtain ⟨tl, htl⟩ : ∃ tl, wholeT d x y = 80 :: tl := ⟨_, rfl⟩
      rw [htl] at hh HWL
      have HWT := Kp.mk htl
      clear htl
      have C0 : Kp (TextsO w3 (B + 1) u9 ts) := ⟨F0.out.below hb⟩
      have CH := Kp.mk hh
      have C3 := Kp.mk (F3.out.keep hb)
      have C4 : Kp (Below A w w3) := ⟨F4.out.trans (hb.mono (by have := F3.out.lt; omega))⟩
      have CF : Kp (∀ g, v3.ownBlock = some g → B + 1 ≤ g ∧ u9.ownBlock ≠ some g) := ⟨fun g hg => by
        have h1 := hfr g hg
        have h2 := F5.out.lt
        exact ⟨by omega, fun e => by have := F0.out.lt g e; omega⟩⟩
      have CB : Kp (B + 1 ≤ w3.heap.size) := ⟨by have := F5.out.lt; have := hb.size; omega⟩
      clear hh hfr hb F0 F1 F2 F3 F4 F5
      go_wp2_with fail
      refine (of_any _ _ 80 tl w3 CH.out (by have := HWL.out; simp at this; omega)).mono ?_
      rintro q w4 ⟨rfl, hb⟩
      obtain ⟨q0, hq⟩ : ∃ q, q = shortL (80 :: tl) := ⟨_, rfl⟩
      rw [← hq]
      have HQl : Kp (q0.length = 16) := ⟨by rw [hq]; exact shortL_len _⟩
      have HQ := Kp.mk hq
      clear hq
      obtain ⟨a1, n1, c1, rfl, -⟩ := CH.out.slice
      have M0 : Kp (TextsO (w4.alloc (.cells #[.slice a1 n1 c1] 32)) (B + 1) u9 ts) := ⟨(C0.out.below hb).below (more (Below.refl _ _) _)⟩
      have MH : Kp (HoldsB (w4.alloc (.cells #[.slice a1 n1 c1] 32)) (w4.alloc (.cells #[.slice a1 n1 c1] 32)).heap.size (.slice a1 n1 c1) (80 :: tl)) := ⟨(HoldsB.keep (HoldsB.keep CH.out hb) (more (Below.refl _ _) _)).mono (by have := hb.size; simp; omega)⟩
      have MC : Kp ((w4.alloc (.cells #[.slice a1 n1 c1] 32)).cell? ⟨w4.heap.size, 0, none⟩ = some (.slice a1 n1 c1)) := ⟨(Blk.new w4 (.cells #[.slice a1 n1 c1] 32)).cell 0⟩
      have M3 : Kp (Row (w4.alloc (.cells #[.slice a1 n1 c1] 32)) (A + 3) 25 .u8 (fill 16 [])) := ⟨Row.alloc (C3.out.keep hb) _⟩
      have M4 : Kp (Below A w (w4.alloc (.cells #[.slice a1 n1 c1] 32))) := ⟨(C4.out.trans (hb.mono (by have := C3.out.lt; omega))).alloc (by have := (C3.out.keep hb).lt; omega) _⟩
      have MB : Kp (B + 1 ≤ (w4.alloc (.cells #[.slice a1 n1 c1] 32)).heap.size) := ⟨by have := CB.out; have := hb.size; simp; omega⟩
      have MN : Kp (∀ x, a1 = some x → u9.ownBlock ≠ some x.block ∧ B + 1 ≤ x.block) := ⟨fun x hx => by
        have h := CF.out x.block (by rw [hx]; rfl)
        exact ⟨h.2, h.1⟩⟩
      clear hb C0 CH C3 C4 CF CB
      go_wp2_with (at_builtin; refine wpList_append_texto rfl _ _ rfl (B + 1) u9 ts rfl M0.out w4.heap.size a1 n1 c1 (80 :: tl) rfl MC.out MH.out MN.out (by simp) (by have := HTL.out; omega) MB.out ?_)
      intro v5 w5 k1 k2 k3
      have HCq := Kp.mk (cellsT25 HQl.out)
      have HZq := Kp.mk (size50 HQl.out)
      have N3 := Kp.mk (M3.out.upto k3 (by omega))
      have N4 : Kp (Below A w w5) := ⟨M4.out.trans (k3.mono (by omega))⟩
      have Y0 : Kp (TextsO (w5.setRow (A + 3) (kv .u8 q0).toArray) (B + 1) v5 (ts ++ [80 :: tl])) := ⟨k1.set (by omega) _⟩
      have Y3 : Kp (Row (w5.setRow (A + 3) (kv .u8 q0).toArray) (A + 3) 25 .u8 q0) := ⟨N3.out.setRow q0⟩
      have Y4 : Kp (Below A w (w5.setRow (A + 3) (kv .u8 q0).toArray)) := ⟨Below.row N4.out (by omega) _⟩
      clear k1 k2 k3 M0 MH MC M3 M4 MB MN
      go_wp2_with (refine wpList_store_row rfl 25 (.tmp 6) (.tmp 43) rfl (A + 3) (kv .u8 q0).toArray rfl rfl 25 _ N3.out HCq.out HZq.out (kv_all _ _) ?_)
      refine bodyPost_ret (v := .tuple #[dgV q0, v5]) ?_ rfl ⟨v5, by rw [HYS.out, HWT.out, ← HQ.out], by rw [HTS.out, HYS.out, HWT.out, ← HA.out]; exact Y0.out.base (by omega : A ≤ B + 1), by rw [← HA.out]; exact Y4.out⟩
      exact results_row_tmp rfl _ _ (A + 3) 25 _ (0, 0) _ _ rfl rfl Y3.out Tryd.underlying25 rfl HCq.out
end Go.Proofs.YtpljjmdkagbjpaaDoor
