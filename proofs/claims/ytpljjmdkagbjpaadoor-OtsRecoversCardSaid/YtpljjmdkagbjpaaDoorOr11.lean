/-
  The document's Recover.
  ToSig, From: an array of short sums, copied one by one.
  The example of layer 10.
  The law OtsLinks, walked.
-/
import Derived.Test.YtpljjmdkagbjpaaDoorOr10
namespace Go.Proofs.YtpljjmdkagbjpaaDoor
open Go.RowKit

set_option maxRecDepth 100000 in
set_option maxHeartbeats 8000000 in
theorem rrecover_any (d x : Int) (m S : List Int) (w : World) (hx : 0 ≤ x ∧ x < 4294967296) (hm : m.length = 16) (hmb : Bytes m) (hS : S.length = 1088) (hSb : Bytes S) :
    Calls Tryd.prog 19 #[nameV d x, dgV m, .agg (kv .u8 S).toArray] w fun q w' => ∃ v, q = .returned (.tuple #[dgV (shortL (wholeT d x (recL d x m S 68))), v]) ∧ TextsO w' w.heap.size v (recTL d x m S 68 ++ [wholeT d x (recL d x m S 68)]) ∧ Below w.heap.size w w' := by
  have HX := Kp.mk hx
  have HM := Kp.mk (And.intro hm hmb)
  have HOK := Kp.mk (recL_ok d x m hS hSb)
  have hC := fun (w : World) => box_row (t := 43) (cs := kv .u8 S) (cellsT43 hS) w
  have hC2 := fun (w : World) => box_row (t := 25) (cs := kv .u8 m) (cellsT25 hm) w
  have HCm := Kp.mk (cellsT25 hm)
  clear hx hm hmb hS hSb
  go_enter Tryd.func19, Tryd.ntmps19
  go_wp2_with (first
    | (refine wpList_box_eq rfl 43 (.tmp 2) rfl _ rfl _ _ (hC _) ?_)
    | (refine wpList_box_eq rfl 25 (.tmp 1) rfl _ rfl _ _ (hC2 _) ?_)
    | (refine wpList_load_row rfl 25 (.tmp 4) rfl (w.heap.size + 1) rfl 25 (kv .u8 m).toArray (0, 0) _ (Blk.old (Blk.old (Blk.newAt _ (by simp)) _) _) Tryd.underlying25 rfl HCm.out ?_))
  obtain ⟨A, hA⟩ : ∃ A, A = w.heap.size := ⟨_, rfl⟩
  have HA := Kp.mk hA
  rw [← hA]
  refine calls_world (fun W => Blk W A (.cells #[.int .i64 d, .int .u32 x] 24) ∧ Row W (A + 2) 43 .u8 S ∧ Row W (A + 3) 25 .u8 (fill 16 []) ∧ Below A w W) ⟨?_, ?_, ?_, ?_⟩ ?_
  · exact Blk.old (Blk.old (Blk.old (Blk.newAt _ hA) _) _) _
  · exact Blk.old (Blk.newAt _ (by simp [hA])) _
  · exact Blk.newAt _ (by simp [hA])
  · rw [hA]; exact more (more (more (more (Below.refl _ _) _) _) _) _
  rw [show A + 1 + 1 + 1 = A + 3 from rfl, show A + 1 + 1 = A + 2 from rfl]
  clear hA hC hC2
  rintro W ⟨h1, h2, h3, h4⟩
  refine (rdigits_any m W HM.out.1 HM.out.2).mono ?_
  rintro r w1 ⟨rfl, hb⟩
  obtain ⟨B, hB⟩ : ∃ B, B = w1.heap.size := ⟨_, rfl⟩
  have HBe := Kp.mk hB
  have G1 := Kp.mk (Blk.keep h1 hb)
  have G2 := Kp.mk (h2.keep hb)
  have G3 := Kp.mk (h3.keep hb)
  have G4 : Kp (Below A w w1) := ⟨h4.trans (hb.mono (Nat.le_of_lt (Blk.lt h1)))⟩
  have hAB : A + 3 < B := by rw [hB]; exact G3.out.lt
  have HDG : Kp (∀ c, c < 68 → (digS m).getD c 0 = digA m c) := ⟨fun c hc => digS_at m hc⟩
  have HDl : Kp ((digS m).length = 68) := ⟨digS_len m⟩
  generalize digS m = dl at *
  have HC51 : Kp ((Tryd.prog.info? 51).map (·.size) = some (kv .u8 dl).toArray.size) := ⟨by rw [show (kv .u8 dl).toArray.size = 68 by simp [HDl.out]]; exact size33⟩
  have HZ51 : Kp ((kv .u8 (List.replicate 68 0)).toArray.size = (kv .u8 dl).toArray.size) := ⟨by rw [kv_size, kv_size, HDl.out]; simp⟩
  clear h1 h2 h3 h4 hb
  go_wp2_with (first
    | (refine wpList_alloc_row rfl 51 rfl _ _ info33 ?_; rw [← hB]; clear hB; refine wpl_world (fun w2 => Row w2 B 51 .u8 (List.replicate 68 0) ∧ Blk w2 A (.cells #[.int .i64 d, .int .u32 x] 24) ∧ Row w2 (A + 2) 43 .u8 S ∧ Row w2 (A + 3) 25 .u8 (fill 16 []) ∧ Below A w w2) ⟨Blk.newAt _ HBe.out, G1.out.old _, G2.out.alloc _, G3.out.alloc _, G4.out.alloc (by have := HBe.out; omega) _⟩ ?_; rintro W2 ⟨h0, h1, h2, h3, h4⟩; have K0 := Kp.mk h0; have K1 := Kp.mk h1; have K2 := Kp.mk h2; have K3 := Kp.mk h3; have K4 := Kp.mk h4; clear h0 h1 h2 h3 h4)
    | (refine wpList_store_row rfl 51 (.tmp 8) (.tmp 15) rfl B (kv .u8 dl).toArray rfl rfl 51 _ K0.out HC51.out HZ51.out (kv_all _ _) ?_; refine wpl_world (fun w2 => Row w2 B 51 .u8 dl ∧ Blk w2 A (.cells #[.int .i64 d, .int .u32 x] 24) ∧ Row w2 (A + 2) 43 .u8 S ∧ Row w2 (A + 3) 25 .u8 (fill 16 []) ∧ Below A w w2) ⟨K0.out.setRow dl, (setRow_other W2 B A _ (by omega)).trans K1.out, Row.otherRow K2.out (by omega) _, Row.otherRow K3.out (by omega) _, Below.row K4.out (by omega) _⟩ ?_; rintro W3 ⟨h0, h1, h2, h3, h4⟩; have L0 := Kp.mk h0; have L1 := Kp.mk h1; have L2 := Kp.mk h2; have L3 := Kp.mk h3; have L4 := Kp.mk h4; clear h0 h1 h2 h3 h4 K0 K1 K2 K3 K4))
  clear G1 G2 G3 G4
  go_loopw [9, 10] (fun v9 c10 wr => ∃ k : Nat, k ≤ 68 ∧ c10 = .int .i64 k ∧ Kp (TextsO wr (B + 1) v9 (recTL d x m S k)) ∧ Kp (Blk wr A (.cells #[.int .i64 d, .int .u32 x] 24)) ∧ Kp (Row wr (A + 2) 43 .u8 (recL d x m S k)) ∧ Kp (Row wr (A + 3) 25 .u8 (fill 16 [])) ∧ Kp (Row wr B 51 .u8 dl) ∧ Kp (Below A w wr)) (fun _ c _ => 68 - (intOf c).toNat)
  case atStart => exact ⟨0, by omega, rfl, ⟨TextsO.nil _ _⟩, L1, L2, L3, L0, L4⟩
  case round =>
    obtain ⟨k, hk, rfl, F0, F1, F2, F3, F5, F4⟩ := hrel
    clear L0 L1 L2 L3 L4
    have HYk := Kp.mk (HOK.out k hk)
    by_cases hlt : k < 68
    · have hdk0 := HDG.out k hlt
      have HYn := Kp.mk (show recL d x m S (k + 1) = splice (recL d x m S k) (k * 16) (runS d x k (dgt m k) (linkAt (recL d x m S k) k) (3 - dgt m k)) from rfl)
      have HTn := Kp.mk (show recTL d x m S (k + 1) = recTL d x m S k ++ runT d x k (dgt m k) (linkAt (recL d x m S k) k) (3 - dgt m k) from rfl)
      have HTH := Kp.mk (recTL_heads d x m S k)
      have HTL : Kp ((recTL d x m S k).length ≤ 204) := ⟨by have := recTL_len d x m S k; omega⟩
      generalize recTL d x m S k = ts at *
      generalize recL d x m S k = y at *
      have HYl : Kp (y.length = 1088) := ⟨HYk.out.1⟩
      obtain ⟨z, hz⟩ : ∃ z, z = linkAt y k := ⟨_, rfl⟩
      rw [← hz] at HYn HTn
      have HZ : Kp (z = (y.drop (k * 16)).take 16) := ⟨hz⟩
      have HZl : Kp (z.length = 16) := ⟨by rw [hz]; exact linkAt_len HYk.out.1 hlt⟩
      have HZb : Kp (Bytes z) := ⟨by rw [hz]; exact linkAt_bytes HYk.out.2 k⟩
      obtain ⟨hg1, hg2⟩ := dgt_is m k
      rw [← hg1] at hdk0
      generalize dgt m k = g at *
      have hdk := Kp.mk hdk0
      obtain ⟨u, hu⟩ : ∃ u, u = runS d x k g z (3 - g) := ⟨_, rfl⟩
      rw [← hu] at HYn
      have HU := Kp.mk hu
      have HUl : Kp (u.length = 16) := ⟨by rw [hu]; exact runS_len d x k g HZl.out _⟩
      obtain ⟨tz, htz⟩ : ∃ tz, tz = runT d x k g z (3 - g) := ⟨_, rfl⟩
      rw [← htz] at HTn
      have HTZ := Kp.mk htz
      have HZH : Kp (Heads tz) := ⟨by rw [htz]; exact runT_heads _ _ _ _ _ _⟩
      have HTZl : Kp (tz.length ≤ 3) := ⟨by rw [htz, runT_len]; omega⟩
      have HC := Kp.mk (cellsT25 HUl.out)
      have HZ16 := Kp.mk (size50 HUl.out)
      clear hz hu hg1 htz hdk0
      have hlt' : (k : Int) < 68 := by omega
      obtain ⟨D, hD⟩ : ∃ D, D = wr.heap.size := ⟨_, rfl⟩
      have HD : Kp (D ≤ wr.heap.size) := ⟨by omega⟩
      have HDlo : Kp (B + 1 ≤ D) := ⟨by rw [hD]; exact F5.out.lt⟩
      have HOB : Kp (∀ g, u9.ownBlock = some g → g < D) := ⟨fun g hg => by rw [hD]; exact F0.out.lt g hg⟩
      clear hD
      go_wp2_with fail
      refine wp_region_predQ (fun w' => Blk w' A (.cells #[.int .i64 d, .int .u32 x] 24) ∧ Row w' (A + 2) 43 .u8 y ∧ Row w' (A + 3) 25 .u8 (fill 16 []) ∧ Row w' B 51 .u8 dl ∧ TextsO w' (B + 1) u9 ts ∧ D ≤ w'.heap.size ∧ Below A w w') [0, 1, 2, 3, 4, 5, 6, 7, 8, 9, 10, 11, 12, 13] [12] [14, 15]
        (fun ι w' v => match ι with
          | 0 => v = nameV d x
          | 1 | 2 | 6 => v = .int .i64 k
          | 3 => v = .pointer (some ⟨B, k, none⟩)
          | 4 => v = .int .u8 g
          | 5 => v = .int .i64 g
          | 7 => v = .pointer (some ⟨A + 2, k * 16, none⟩)
          | 8 => v = dgV z
          | 11 => v = dgV u
          | 9 => ∃ t Q, v = .tuple #[dgV u, t] ∧ D ≤ Q ∧ TextsO w' Q t tz
          | 10 => ∃ t Q, v = .tuple #[dgV u, t] ∧ D ≤ Q ∧ TextsO w' Q t tz
          | 12 => ∃ Q, D ≤ Q ∧ TextsO w' Q v tz
          | 13 => ∃ gq, v = .pointer (some ⟨gq, 0, none⟩) ∧ B < gq ∧ Row w' gq 25 .u8 (fill 16 [])
          | _ => v = .bool true)
        [[], [], [], [(2, some 23)], [(3, some 24)], [(4, some 25)], [], [(6, some 27)], [(7, some 28)], [(0, some 21), (1, some 22), (5, some 26), (8, some 29)], [(9, some 30)], [(10, some 20)], [(10, some 20)], []]
        [[(10, some 20)]]
        [(0, some 21), (1, some 22), (2, some 23), (3, some 24), (4, some 25), (5, some 26), (6, some 27), (7, some 28), (8, some 29), (9, some 30), (10, some 20), (11, some 31), (12, some 32), (13, some 11)]
        (by kernel_rfl) (by kernel_rfl) (by kernel_rfl) (by kernel_rfl) (by kernel_rfl) (by kernel_rfl) (by kernel_rfl) (by decide) (by decide) (fun w1 w2 h hb => ⟨h.1.keep hb, h.2.1.keep hb, h.2.2.1.keep hb, h.2.2.2.1.keep hb, h.2.2.2.2.1.below hb, Nat.le_trans h.2.2.2.2.2.1 hb.size, h.2.2.2.2.2.2.trans (hb.mono (Nat.le_of_lt h.1.lt))⟩) (fun c a w d v h => by cases d <;> exact h) ?_ ⟨F1.out.draw, F2.out.drew, F3.out.drew, F5.out.drew, F0.out.drew, HD.out, F4.out.drew⟩ ?_ ?_ ?_
      · intro ι w1 w2 v h hb
        by_cases h9 : ι = 9
        · subst h9
          exact (show ∃ t Q, _ ∧ D ≤ Q ∧ TextsO w2 Q t tz from (by obtain ⟨t, Q, e, hq, ht⟩ := h; exact ⟨t, Q, e, hq, ht.below hb⟩))
        by_cases h10 : ι = 10
        · subst h10
          exact (show ∃ t Q, _ ∧ D ≤ Q ∧ TextsO w2 Q t tz from (by obtain ⟨t, Q, e, hq, ht⟩ := h; exact ⟨t, Q, e, hq, ht.below hb⟩))
        by_cases h12 : ι = 12
        · subst h12
          exact (show ∃ Q, D ≤ Q ∧ TextsO w2 Q v tz from (by obtain ⟨Q, hq, ht⟩ := h; exact ⟨Q, hq, ht.below hb⟩))
        by_cases h13 : ι = 13
        · subst h13
          exact (show ∃ gq, v = .pointer (some ⟨gq, 0, none⟩) ∧ B < gq ∧ Row w2 gq 25 .u8 (fill 16 []) from (by obtain ⟨gq, e, h1, hg⟩ := h; exact ⟨gq, e, h1, hg.keep hb⟩))
        match ι, h9, h10, h12, h13, h with
        | 0, _, _, _, _, h => exact h
        | 1, _, _, _, _, h => exact h
        | 2, _, _, _, _, h => exact h
        | 3, _, _, _, _, h => exact h
        | 4, _, _, _, _, h => exact h
        | 5, _, _, _, _, h => exact h
        | 6, _, _, _, _, h => exact h
        | 7, _, _, _, _, h => exact h
        | 8, _, _, _, _, h => exact h
        | 9, g, _, _, _, h => exact absurd rfl g
        | 10, _, g, _, _, h => exact absurd rfl g
        | 11, _, _, _, _, h => exact h
        | 12, _, _, g, _, h => exact absurd rfl g
        | 13, _, _, _, g, h => exact absurd rfl g
        | _ + 14, _, _, _, _, h => exact h
      · refine ⟨fun γ wx hS h => ?_, fun γ wx hS h => ?_, fun γ wx hS h => ?_, fun γ wx hS h => ?_, fun γ wx hS h => ?_, fun γ wx hS h => ?_, fun γ wx hS h => ?_, fun γ wx hS h => ?_, fun γ wx hS h => ?_, fun γ wx hS h => ?_, fun γ wx hS h => ?_, fun γ wx hS h => ?_, fun γ wx hS h => ?_, fun γ wx hS h => ?_, trivial⟩
        · refine ⟨_, rfl, Or.inl ⟨rfl, predRun_value (exec_load_blk 24 (.tmp 3) rfl (A) rfl 24 _ (0, 0) _ hS.1 Tryd.underlying24 rfl (cellsN24 d x)) rfl⟩⟩
        · refine ⟨_, rfl, Or.inl ⟨rfl, predRun_value (v := .int .i64 k) (by simp only [putE]; first | rfl | (go_simp; done) | (go_simp; with_reducible rfl) | (go_simp; rfl)) rfl⟩⟩
        · refine ⟨_, rfl, Or.inl ⟨rfl, predRun_value (v := .int .i64 k) (by simp only [putE]; first | rfl | (go_simp; done) | (go_simp; with_reducible rfl) | (go_simp; rfl)) rfl⟩⟩
        · have h2 := h
          have e2 : γ 2 = .int .i64 k := h2
          refine ⟨_, rfl, ?_⟩
          refine predOp_val (v := .pointer (some ⟨B, k, none⟩)) ?_ ?_ ?_
          · kernel_rfl
          · simp only [putE, e2]
            go_simp
          · rfl
        · have h3 := h
          have e3 : γ 3 = .pointer (some ⟨B, k, none⟩) := h3
          have hcell := hS.2.2.2.1.cell (i := k) (by rw [HDl.out]; exact hlt)
          rw [hdk.out] at hcell
          refine ⟨_, rfl, ?_⟩
          refine predOp_val (v := .int .u8 g) ?_ ?_ ?_
          · kernel_rfl
          · simp only [putE, e3]
            go_simp
          · rfl
        · have h4 := h
          have e4 : γ 4 = .int .u8 g := h4
          refine ⟨_, rfl, Or.inl ⟨rfl, predRun_value (v := .int .i64 g) (by simp only [putE, e4]; go_simp; exact IntWalk.i64_in _ (by omega)) rfl⟩⟩
        · refine ⟨_, rfl, Or.inl ⟨rfl, predRun_value (v := .int .i64 k) (by simp only [putE]; first | rfl | (go_simp; done) | (go_simp; with_reducible rfl) | (go_simp; rfl)) rfl⟩⟩
        · have h6 := h
          have e6 : γ 6 = .int .i64 k := h6
          refine ⟨_, rfl, ?_⟩
          refine predOp_val (v := .pointer (some ⟨A + 2, k * 16, none⟩)) ?_ ?_ ?_
          · kernel_rfl
          · simp only [putE, e6]
            go_simp
          · rfl
        · have h7 := h
          have e7 : γ 7 = .pointer (some ⟨A + 2, k * 16, none⟩) := h7
          refine ⟨_, rfl, Or.inl ⟨rfl, predRun_value (v := dgV z) (exec_load_mid (cs := kv .u8 z) rfl (by simp only [putE, e7]; rfl) (by rw [HZ.out]; exact hS.2.1.mid (by rw [HYl.out]; omega)) Tryd.underlying25 rfl (cellsLT25 HZl.out)) rfl⟩⟩
        · obtain ⟨h0, h1, h5, h8⟩ := h
          have e0 : γ 0 = nameV d x := h0
          have e1 : γ 1 = .int .i64 k := h1
          have e5 : γ 5 = .int .i64 g := h5
          have e8 : γ 8 = dgV z := h8
          refine ⟨_, rfl, Or.inl ⟨rfl, predRun_call (f := 22) (args := #[nameV d x, .int .i64 k, .int .i64 g, .int .i64 3, dgV z]) (by simp only [putE, e0, e1, e5, e8]; go_simp) ?_⟩⟩
          exact (rrun_any d x k g 3 z wx HX.out (by omega) (by omega) HZl.out HZb.out).mono fun e w2 ⟨v, h1, h2, h3⟩ => ⟨_, h1, ⟨v, wx.heap.size, (show Value.tuple #[dgV (runS d x k g z (3 - g)), v] = _ by rw [HU.out]), hS.2.2.2.2.2.1, (show TextsO w2 wx.heap.size v tz by rw [HTZ.out]; exact h2)⟩, h3⟩
        · have h9 := h
          have p9 : ∃ t Q, (γ 9) = .tuple #[dgV u, t] ∧ D ≤ Q ∧ TextsO wx Q t tz := h9
          obtain ⟨t, Q, e9, hq, ht⟩ := p9
          refine ⟨_, rfl, Or.inl ⟨rfl, predRun_value (v := .tuple #[dgV u, t]) (by simp only [putE, e9]; first | rfl | (go_simp; done) | (go_simp; rfl)) ⟨t, Q, rfl, hq, ht⟩⟩⟩
        · have h10 := h
          have p10 : ∃ t Q, (γ 10) = .tuple #[dgV u, t] ∧ D ≤ Q ∧ TextsO wx Q t tz := h10
          obtain ⟨t, Q, e10, hq, ht⟩ := p10
          refine ⟨_, rfl, Or.inl ⟨rfl, predRun_value (v := dgV u) (by simp only [putE, e10]; first | rfl | (go_simp; done) | (go_simp; rfl)) rfl⟩⟩
        · have h10 := h
          have p10 : ∃ t Q, (γ 10) = .tuple #[dgV u, t] ∧ D ≤ Q ∧ TextsO wx Q t tz := h10
          obtain ⟨t, Q, e10, hq, ht⟩ := p10
          refine ⟨_, rfl, Or.inl ⟨rfl, predRun_value (v := t) (by simp only [putE, e10]; first | rfl | (go_simp; done) | (go_simp; rfl)) ⟨Q, hq, ht⟩⟩⟩
        · refine ⟨_, rfl, Or.inl ⟨rfl, predRun_new (w' := wx.alloc z16r) (v := .pointer (some ⟨wx.heap.size, 0, none⟩)) (by simp only [putE]; first | rfl | (go_simp; done) | (go_simp; rfl)) (more (Below.refl _ _) _) ⟨_, rfl, hS.2.2.2.1.lt, Blk.new _ _⟩⟩⟩
      · refine ⟨fun γ wx hS h => ?_, trivial⟩
        · have h10 := h
          have p10 : ∃ t Q, (γ 10) = .tuple #[dgV u, t] ∧ D ≤ Q ∧ TextsO wx Q t tz := h10
          obtain ⟨t, Q, e10, hq, ht⟩ := p10
          refine ⟨_, t, rfl, Or.inl ⟨rfl, fun wz => by simp only [putE, e10]; first | rfl | (go_simp; done) | (go_simp; rfl)⟩, ⟨Q, hq, ht⟩⟩
      · intro γ w9 hS h
        have e11 : γ 11 = dgV u := h.2.2.2.2.2.2.2.2.2.2.2.1
        obtain ⟨Q, hDQ, h12⟩ : ∃ Q, D ≤ Q ∧ TextsO w9 Q (γ 12) tz := h.2.2.2.2.2.2.2.2.2.2.2.2.1
        obtain ⟨gq, e13, hAg, hg⟩ : ∃ gq, γ 13 = .pointer (some ⟨gq, 0, none⟩) ∧ B < gq ∧ Row w9 gq 25 .u8 (fill 16 []) := h.2.2.2.2.2.2.2.2.2.2.2.2.2
        simp only [putE, Act.put, List.setIfInBounds_toArray, List.set_cons_zero, List.set_cons_succ]
        rw [e11, e13]
        have HGA : Kp (Row w9 gq 25 .u8 (fill 16 [])) := ⟨hg⟩
        obtain ⟨W9, hW9⟩ : ∃ W9, W9 = w9.setRow gq (kv .u8 u).toArray := ⟨_, rfl⟩
        have EG : Kp (Row W9 gq 25 .u8 u) := ⟨by rw [hW9]; exact HGA.out.setRow u⟩
        have E0 : Kp (TextsO W9 (B + 1) u9 ts) := ⟨by rw [hW9]; exact hS.2.2.2.2.1.zero hg HTH.out _⟩
        have ET : Kp (TextsO W9 Q (γ 12) tz) := ⟨by rw [hW9]; exact h12.zero hg HZH.out _⟩
        have E1 : Kp (Blk W9 A (.cells #[.int .i64 d, .int .u32 x] 24)) := ⟨by rw [hW9]; exact (setRow_other w9 gq A _ (by omega)).trans hS.1⟩
        have E2 : Kp (Row W9 (A + 2) 43 .u8 y) := ⟨by rw [hW9]; exact Row.otherRow hS.2.1 (by omega) _⟩
        have E3 : Kp (Row W9 (A + 3) 25 .u8 (fill 16 [])) := ⟨by rw [hW9]; exact Row.otherRow hS.2.2.1 (by omega) _⟩
        have E5 : Kp (Row W9 B 51 .u8 dl) := ⟨by rw [hW9]; exact Row.otherRow hS.2.2.2.1 (by omega) _⟩
        have E6 : Kp (D ≤ W9.heap.size) := ⟨by rw [hW9]; simpa [World.setRow] using hS.2.2.2.2.2.1⟩
        have E4 : Kp (Below A w W9) := ⟨by rw [hW9]; exact Below.row hS.2.2.2.2.2.2 (by omega) _⟩
        have HWk := Kp.mk hW9
        have HDQ := Kp.mk hDQ
        clear h hS e11 e13 h12 hg F0 F1 F2 F3 F4 F5 hW9 hDQ
        generalize γ 12 = v12 at *
        refine wpOps_step rfl rfl ?_
        refine wp_store_row 25 (.tmp 11) (.tmp 31) rfl gq (kv .u8 u).toArray rfl rfl 25 _ HGA.out HC.out HZ16.out (kv_all _ _) ?_
        rw [← HWk.out]
        clear HWk HGA
        refine wpOps_step rfl rfl ?_
        refine wp_assign_end rfl rfl ?_
        refine wpOps_done ?_
        have HTHR := Kp.mk (E2.out.there (o := k * 16) (n := 16) (by rw [HYl.out]; omega))
        obtain ⟨V, hV⟩ : ∃ V, V = W9.setCells (A + 2) (k * 16) (kv .u8 u) := ⟨_, rfl⟩
        have D0 : Kp (TextsO V (B + 1) u9 ts) := ⟨by rw [hV]; exact E0.out.mid (by omega) _ _⟩
        have DT : Kp (TextsO V Q v12 tz) := ⟨by rw [hV]; exact ET.out.mid (by have := HDQ.out; have := HDlo.out; omega) _ _⟩
        have D1 : Kp (Blk V A (.cells #[.int .i64 d, .int .u32 x] 24)) := ⟨by rw [hV]; exact Blk.otherCells (by omega) _ _ _ E1.out⟩
        have D2 : Kp (Row V (A + 2) 43 .u8 (splice y (k * 16) u)) := ⟨by rw [hV]; exact Row.setCells u (k * 16) W9 y (by rw [HYl.out, HUl.out]; omega) E2.out⟩
        have D3 : Kp (Row V (A + 3) 25 .u8 (fill 16 [])) := ⟨by rw [hV]; exact Row.otherCells (by omega) _ _ _ E3.out⟩
        have D5 : Kp (Row V B 51 .u8 dl) := ⟨by rw [hV]; exact Row.otherCells (by omega) _ _ _ E5.out⟩
        have D4 : Kp (Below A w V) := ⟨by rw [hV]; exact Below.cells (by omega) _ _ _ _ E4.out⟩
        have D6 : Kp (B + 1 ≤ V.heap.size) := ⟨D5.out.lt⟩
        have HV := Kp.mk hV.symm
        clear hV E0 ET E1 E2 E3 E4 E5 E6
        go_wp2_with (first
          | (refine wpList_load_row rfl 25 (.tmp 11) rfl gq rfl 25 (kv .u8 u).toArray (0, 0) _ EG.out Tryd.underlying25 rfl HC.out ?_)
          | (refine wpList_store_mid rfl 25 (.tmp 35) (.tmp 34) rfl (A + 2) (k * 16) (kv .u8 u).toArray rfl rfl (by rw [kv_size, HUl.out]; exact HTHR.out) HC.out (kv_all _ _) ?_; refine wpl_world (· = V) HV.out ?_; clear HV; intro W0 e0; rw [e0]; clear e0)
          | (at_builtin; refine wpList_append_textsO rfl _ _ rfl (B + 1) u9 ts rfl D0.out Q v12 tz rfl DT.out ?c0 ?c1 ?c2 D6.out ?_))
        case c0 => have := HDQ.out; have := HDlo.out; omega
        case c1 => exact fun g hg => Nat.lt_of_lt_of_le (HOB.out g hg) HDQ.out
        case c2 => have := HTL.out; have := HTZl.out; omega
        intro v9' w9' k1 k2
        have X0 : Kp (TextsO w9' (B + 1) v9' (recTL d x m S (k + 1))) := ⟨by rw [HTn.out]; exact k1⟩
        have X1 : Kp (Blk w9' A (.cells #[.int .i64 d, .int .u32 x] 24)) := ⟨D1.out.upto k2 (by omega)⟩
        have X2 : Kp (Row w9' (A + 2) 43 .u8 (recL d x m S (k + 1))) := ⟨by rw [HYn.out]; exact D2.out.upto k2 (by omega)⟩
        have X3 : Kp (Row w9' (A + 3) 25 .u8 (fill 16 [])) := ⟨D3.out.upto k2 (by omega)⟩
        have X5 : Kp (Row w9' B 51 .u8 dl) := ⟨D5.out.upto k2 (by omega)⟩
        have X4 : Kp (Below A w w9') := ⟨D4.out.trans (k2.mono (by omega))⟩
        clear k1 k2 D0 DT D1 D2 D3 D4 D5 D6 HYn HTn
        go_wp2_with fail
        exact ⟨⟨k + 1, by omega, by go_num, X0, X1, X2, X3, X5, X4⟩, by simp [intOf]; omega⟩
    · obtain rfl : k = 68 := by omega
      have hge : ¬ ((68 : Nat) : Int) < 68 := by omega
      clear HOK
      have HTL : Kp ((recTL d x m S 68).length ≤ 204) := ⟨recTL_len d x m S 68⟩
      generalize hts : recTL d x m S 68 = ts at *
      generalize hy : recL d x m S 68 = y at *
      have HTS := Kp.mk hts
      have HYS := Kp.mk hy
      clear hts hy
      have HYl : Kp (y.length = 1088) := ⟨HYk.out.1⟩
      have HYb : Kp (Bytes y) := ⟨HYk.out.2⟩
      go_wp2_with (first
        | (refine wpList_load_row rfl 24 (.tmp 3) rfl A rfl 24 _ (0, 0) _ F1.out Tryd.underlying24 rfl (cellsN24 d x) ?_)
        | (refine wpList_load_row rfl 43 (.tmp 5) rfl (A + 2) rfl 43 (kv .u8 y).toArray (0, 0) _ F2.out Tryd.underlying43 rfl (cellsT43 HYl.out) ?_))
      refine (press_any d x y wr HX.out HYl.out HYb.out).mono ?_
      rintro q w3 ⟨v3, rfl, hh, hfr, hb⟩
      have HWL : Kp ((wholeT d x y).length = 1094) := ⟨by simp [wholeT, headL_len, HYl.out]⟩
      obtain ⟨tl, htl⟩ : ∃ tl, wholeT d x y = 80 :: tl := ⟨_, rfl⟩
      rw [htl] at hh HWL
      have HWT := Kp.mk htl
      clear htl
      have C0 : Kp (TextsO w3 (B + 1) u9 ts) := ⟨F0.out.below hb⟩
      have CH := Kp.mk hh
      have C3 := Kp.mk (F3.out.keep hb)
      have C4 : Kp (Below A w w3) := ⟨F4.out.trans (hb.mono (by have := F3.out.lt; omega))⟩
      have CF : Kp (∀ g, v3.ownBlock = some g → B + 1 ≤ g ∧ u9.ownBlock ≠ some g) := ⟨fun g hg => by
        have h1 := hfr g hg
        have h2 := F5.out.lt
        exact ⟨by omega, fun e => by have := F0.out.lt g e; omega⟩⟩
      have CB : Kp (B + 1 ≤ w3.heap.size) := ⟨by have := F5.out.lt; have := hb.size; omega⟩
      clear hh hfr hb F0 F1 F2 F3 F4 F5
      go_wp2_with fail
      refine (of_any _ _ 80 tl w3 CH.out (by have := HWL.out; simp at this; omega)).mono ?_
      rintro q w4 ⟨rfl, hb⟩
      obtain ⟨q0, hq⟩ : ∃ q, q = shortL (80 :: tl) := ⟨_, rfl⟩
      rw [← hq]
      have HQl : Kp (q0.length = 16) := ⟨by rw [hq]; exact shortL_len _⟩
      have HQ := Kp.mk hq
      clear hq
      obtain ⟨a1, n1, c1, rfl, -⟩ := CH.out.slice
      have M0 : Kp (TextsO (w4.alloc (.cells #[.slice a1 n1 c1] 32)) (B + 1) u9 ts) := ⟨(C0.out.below hb).below (more (Below.refl _ _) _)⟩
      have MH : Kp (HoldsB (w4.alloc (.cells #[.slice a1 n1 c1] 32)) (w4.alloc (.cells #[.slice a1 n1 c1] 32)).heap.size (.slice a1 n1 c1) (80 :: tl)) := ⟨(HoldsB.keep (HoldsB.keep CH.out hb) (more (Below.refl _ _) _)).mono (by have := hb.size; simp; omega)⟩
      have MC : Kp ((w4.alloc (.cells #[.slice a1 n1 c1] 32)).cell? ⟨w4.heap.size, 0, none⟩ = some (.slice a1 n1 c1)) := ⟨(Blk.new w4 (.cells #[.slice a1 n1 c1] 32)).cell 0⟩
      have M3 : Kp (Row (w4.alloc (.cells #[.slice a1 n1 c1] 32)) (A + 3) 25 .u8 (fill 16 [])) := ⟨Row.alloc (C3.out.keep hb) _⟩
      have M4 : Kp (Below A w (w4.alloc (.cells #[.slice a1 n1 c1] 32))) := ⟨(C4.out.trans (hb.mono (by have := C3.out.lt; omega))).alloc (by have := (C3.out.keep hb).lt; omega) _⟩
      have MB : Kp (B + 1 ≤ (w4.alloc (.cells #[.slice a1 n1 c1] 32)).heap.size) := ⟨by have := CB.out; have := hb.size; simp; omega⟩
      have MN : Kp (∀ x, a1 = some x → u9.ownBlock ≠ some x.block ∧ B + 1 ≤ x.block) := ⟨fun x hx => by
        have h := CF.out x.block (by rw [hx]; rfl)
        exact ⟨h.2, h.1⟩⟩
      clear hb C0 CH C3 C4 CF CB
      go_wp2_with (at_builtin; refine wpList_append_texto rfl _ _ rfl (B + 1) u9 ts rfl M0.out w4.heap.size a1 n1 c1 (80 :: tl) rfl MC.out MH.out MN.out (by simp) (by have := HTL.out; omega) MB.out ?_)
      intro v5 w5 k1 k2 k3
      have HCq := Kp.mk (cellsT25 HQl.out)
      have HZq := Kp.mk (size50 HQl.out)
      have N3 := Kp.mk (M3.out.upto k3 (by omega))
      have N4 : Kp (Below A w w5) := ⟨M4.out.trans (k3.mono (by omega))⟩
      have Y0 : Kp (TextsO (w5.setRow (A + 3) (kv .u8 q0).toArray) (B + 1) v5 (ts ++ [80 :: tl])) := ⟨k1.set (by omega) _⟩
      have Y3 : Kp (Row (w5.setRow (A + 3) (kv .u8 q0).toArray) (A + 3) 25 .u8 q0) := ⟨N3.out.setRow q0⟩
      have Y4 : Kp (Below A w (w5.setRow (A + 3) (kv .u8 q0).toArray)) := ⟨Below.row N4.out (by omega) _⟩
      clear k1 k2 k3 M0 MH MC M3 M4 MB MN
      go_wp2_with (refine wpList_store_row rfl 25 (.tmp 6) (.tmp 43) rfl (A + 3) (kv .u8 q0).toArray rfl rfl 25 _ N3.out HCq.out HZq.out (kv_all _ _) ?_)
      refine bodyPost_ret (v := .tuple #[dgV q0, v5]) ?_ rfl ⟨v5, by rw [HYS.out, HWT.out, ← HQ.out], by rw [HTS.out, HYS.out, HWT.out, ← HA.out]; exact Y0.out.base (by omega : A ≤ B + 1), by rw [← HA.out]; exact Y4.out⟩
      exact results_row_tmp rfl _ _ (A + 3) 25 _ (0, 0) _ _ rfl rfl Y3.out Tryd.underlying25 rfl HCq.out
end Go.Proofs.YtpljjmdkagbjpaaDoor

namespace Go.Proofs.YtpljjmdkagbjpaaDoor
open Go.RowKit

theorem cells_41 {S : List Int} (h : S.length = 1088) : (Tryd.prog.info? 41).map (·.size) = some (kv .u8 S).toArray.size := cells41 h
theorem cells_43 {S : List Int} (h : S.length = 1088) : (Tryd.prog.info? 43).map (·.size) = some (kv .u8 S).toArray.size := cells43 h
theorem infoz41 : (Tryd.prog.info? 41).map (fun i => (i.zero, i.size)) = some (some (.agg (kv .u8 (List.replicate 1088 0)).toArray), 1088) := by kernel_rfl
theorem infoz43 : (Tryd.prog.info? 43).map (fun i => (i.zero, i.size)) = some (some (.agg (kv .u8 (List.replicate 1088 0)).toArray), 1088) := by kernel_rfl
/-- The first k links of S, zeros behind them. -/
def toS (S : List Int) (k : Nat) : List Int := S.take (k * 16) ++ List.replicate (1088 - k * 16) 0
theorem toS_none (S : List Int) : toS S 0 = List.replicate 1088 0 := by unfold toS; rw [Nat.zero_mul, List.take_zero, List.nil_append]
theorem toS_len {S : List Int} (h : S.length = 1088) (k : Nat) : (toS S k).length = 1088 := by
  unfold toS
  rw [List.length_append, List.length_take, List.length_replicate, h]
  omega
theorem toS_all {S : List Int} (h : S.length = 1088) : toS S 68 = S := by
  unfold toS
  rw [List.take_of_length_le (by omega), show 1088 - 68 * 16 = 0 from rfl, List.replicate_zero, List.append_nil]
theorem toS_step {S : List Int} (h : S.length = 1088) {k : Nat} (hk : k < 68) : splice (toS S k) (k * 16) (linkAt S k) = toS S (k + 1) := by
  have hl := linkAt_len h hk
  have ht : (S.take (k * 16)).length = k * 16 := by rw [List.length_take, h]; omega
  unfold splice toS
  rw [List.take_append_of_le_length (by omega), List.take_of_length_le (by omega), hl, List.drop_append, ht, List.drop_of_length_le (by omega), List.nil_append, List.drop_replicate]
  rw [show (k + 1) * 16 = k * 16 + 16 by omega, List.take_add]
  unfold linkAt
  rw [show 1088 - k * 16 - (k * 16 + 16 - k * 16) = 1088 - (k * 16 + 16) by omega, List.append_assoc]
set_option maxRecDepth 100000 in
set_option maxHeartbeats 4000000 in
theorem toSig_any (S : List Int) (w : World) (hS : S.length = 1088) (hSb : Bytes S) :
    Calls Tryd.prog 20 #[.agg (kv .u8 S).toArray] w fun q w' => q = .returned (.agg (kv .u8 S).toArray) ∧ Below w.heap.size w w' := by
  have HS := Kp.mk hS
  have HSB := Kp.mk hSb
  have hC := fun (w : World) => box_row (t := 43) (cs := kv .u8 S) (cells_43 hS) w
  clear hS hSb
  go_enter Tryd.func20, Tryd.ntmps20
  go_wp2_with (first
    | (refine wpList_box_eq rfl 43 (.tmp 0) rfl _ rfl _ _ (hC _) ?_)
    | (refine wpList_alloc_row rfl 41 rfl _ _ infoz41 ?_))
  obtain ⟨A, hA⟩ : ∃ A, A = w.heap.size := ⟨_, rfl⟩
  have HA := Kp.mk hA
  rw [← hA]
  refine wp_world (fun W => Row W A 43 .u8 S ∧ Row W (A + 1) 41 .u8 (List.replicate 1088 0) ∧ Row W (A + 2) 41 .u8 (List.replicate 1088 0) ∧ Below A w W) ⟨?_, ?_, ?_, ?_⟩ ?_
  · exact Blk.old (Blk.old (Blk.newAt _ hA) _) _
  · exact Blk.old (Blk.newAt _ (by simp [hA])) _
  · exact Blk.newAt _ (by simp [hA])
  · rw [hA]; exact more (more (more (Below.refl _ _) _) _) _
  rw [show A + 1 + 1 = A + 2 from rfl]
  clear hA hC
  rintro W ⟨h1, h2, h3, h4⟩
  have G1 := Kp.mk h1
  have G2 := Kp.mk h2
  have G3 := Kp.mk h3
  have G4 := Kp.mk h4
  clear h1 h2 h3 h4
  go_loopw [4, 5] (fun _ c wr => ∃ k : Nat, k ≤ 68 ∧ c = .int .i64 k ∧ Kp (Row wr A 43 .u8 S) ∧ Kp (Row wr (A + 1) 41 .u8 (List.replicate 1088 0)) ∧ Kp (Row wr (A + 2) 41 .u8 (toS S k)) ∧ Kp (Below A w wr)) (fun _ c _ => 68 - (intOf c).toNat)
  case atStart => exact ⟨0, by omega, rfl, G1, G2, ⟨by rw [toS_none]; exact G3.out⟩, G4⟩
  case round =>
    obtain ⟨k, hk, rfl, F1, F2, F3, F4⟩ := hrel
    clear G1 G2 G3 G4
    have HTl : Kp ((toS S k).length = 1088) := ⟨toS_len HS.out k⟩
    by_cases hlt : k < 68
    · have hlt' : (k : Int) < 68 := by omega
      have HN := Kp.mk (toS_step HS.out hlt)
      have HLl := Kp.mk (linkAt_len HS.out hlt)
      have HR : Kp (wr.rangeAt A (k * 16) (kv .u8 (linkAt S k))) := ⟨F1.out.mid (by rw [HS.out]; omega)⟩
      obtain ⟨z, hz⟩ : ∃ z, z = linkAt S k := ⟨_, rfl⟩
      rw [← hz] at HR HLl HN
      clear hz
      generalize toS S k = y at *
      have HT := Kp.mk (F3.out.there (o := k * 16) (n := 16) (by rw [HTl.out]; omega))
      obtain ⟨V, hV⟩ : ∃ V, V = wr.setCells (A + 2) (k * 16) (kv .u8 z) := ⟨_, rfl⟩
      have D1 : Kp (Row V A 43 .u8 S) := ⟨by rw [hV]; exact Row.otherCells (by omega) _ _ _ F1.out⟩
      have D2 : Kp (Row V (A + 1) 41 .u8 (List.replicate 1088 0)) := ⟨by rw [hV]; exact Row.otherCells (by omega) _ _ _ F2.out⟩
      have D3 : Kp (Row V (A + 2) 41 .u8 (toS S (k + 1))) := ⟨by rw [hV, ← HN.out]; exact Row.setCells z (k * 16) wr y (by rw [HTl.out, HLl.out]; omega) F3.out⟩
      have D4 : Kp (Below A w V) := ⟨by rw [hV]; exact Below.cells (by omega) _ _ _ _ F4.out⟩
      have HV := Kp.mk hV.symm
      have HCL : Kp ((Tryd.prog.info? 25).map (·.size) = some (kv .u8 z).length) := ⟨by rw [List.length_map, HLl.out]; kernel_rfl⟩
      have HC2 : Kp ((Tryd.prog.info? 27).map (·.size) = some (kv .u8 z).toArray.size) := ⟨by rw [kv_size, HLl.out]; kernel_rfl⟩
      clear hV F1 F2 F3 F4
      go_wp2_with (first
        | (refine wpList_load_mid rfl 25 (.tmp 10) rfl A (k * 16) rfl (kv .u8 z) _ HR.out Tryd.underlying25 rfl HCL.out ?_)
        | (refine wpList_store_mid rfl 27 (.tmp 12) (.tmp 11) rfl (A + 2) (k * 16) (kv .u8 z).toArray rfl rfl (by rw [kv_size, HLl.out]; exact HT.out) HC2.out (kv_all _ _) ?_; refine wpl_world (· = V) HV.out ?_; clear HV; intro W0 e0; rw [e0]; clear e0))
      exact ⟨⟨k + 1, by omega, by go_num, D1, D2, D3, D4⟩, by simp [intOf]; omega⟩
    · obtain rfl : k = 68 := by omega
      have hge : ¬ ((68 : Nat) : Int) < 68 := by omega
      have K3 : Kp (Row wr (A + 2) 41 .u8 S) := ⟨F3.out.as (toS_all HS.out)⟩
      have HC41 := Kp.mk (cells_41 HS.out)
      have HZ : Kp ((kv .u8 (List.replicate 1088 0)).toArray.size = (kv .u8 S).toArray.size) := ⟨by rw [kv_size, kv_size, HS.out, List.length_replicate]⟩
      have KR := Kp.mk (F2.out.setRow S)
      have KB := Kp.mk (Below.row F4.out (g := A + 1) (by omega) (kv .u8 S).toArray)
      clear F3
      go_wp2_with (first
        | (refine wpList_load_row rfl 41 (.tmp 3) rfl (A + 2) rfl 41 (kv .u8 S).toArray (0, 0) _ K3.out Tryd.underlying41 rfl HC41.out ?_)
        | (refine wpList_store_row rfl 41 (.tmp 2) (.tmp 14) rfl (A + 1) (kv .u8 S).toArray rfl rfl 41 _ F2.out HC41.out HZ.out (kv_all _ _) ?_))
      refine bodyPost_ret (v := .agg (kv .u8 S).toArray) (results_cell_row rfl _ _ (A + 1) 41 _ (0, 0) _ rfl KR.out Tryd.underlying41 rfl HC41.out) rfl ⟨rfl, by rw [← HA.out]; exact KB.out⟩
set_option maxRecDepth 100000 in
set_option maxHeartbeats 4000000 in
theorem from_any (S : List Int) (w : World) (hS : S.length = 1088) (hSb : Bytes S) :
    Calls Tryd.prog 16 #[.agg (kv .u8 S).toArray] w fun q w' => q = .returned (.agg (kv .u8 S).toArray) ∧ Below w.heap.size w w' := by
  have HS := Kp.mk hS
  have HSB := Kp.mk hSb
  have hC := fun (w : World) => box_row (t := 41) (cs := kv .u8 S) (cells_41 hS) w
  clear hS hSb
  go_enter Tryd.func16, Tryd.ntmps16
  go_wp2_with (first
    | (refine wpList_box_eq rfl 41 (.tmp 0) rfl _ rfl _ _ (hC _) ?_)
    | (refine wpList_alloc_row rfl 43 rfl _ _ infoz43 ?_))
  obtain ⟨A, hA⟩ : ∃ A, A = w.heap.size := ⟨_, rfl⟩
  have HA := Kp.mk hA
  rw [← hA]
  refine wp_world (fun W => Row W A 41 .u8 S ∧ Row W (A + 1) 43 .u8 (List.replicate 1088 0) ∧ Row W (A + 2) 43 .u8 (List.replicate 1088 0) ∧ Below A w W) ⟨?_, ?_, ?_, ?_⟩ ?_
  · exact Blk.old (Blk.old (Blk.newAt _ hA) _) _
  · exact Blk.old (Blk.newAt _ (by simp [hA])) _
  · exact Blk.newAt _ (by simp [hA])
  · rw [hA]; exact more (more (more (Below.refl _ _) _) _) _
  rw [show A + 1 + 1 = A + 2 from rfl]
  clear hA hC
  rintro W ⟨h1, h2, h3, h4⟩
  have G1 := Kp.mk h1
  have G2 := Kp.mk h2
  have G3 := Kp.mk h3
  have G4 := Kp.mk h4
  clear h1 h2 h3 h4
  go_loopw [4, 5] (fun _ c wr => ∃ k : Nat, k ≤ 68 ∧ c = .int .i64 k ∧ Kp (Row wr A 41 .u8 S) ∧ Kp (Row wr (A + 1) 43 .u8 (List.replicate 1088 0)) ∧ Kp (Row wr (A + 2) 43 .u8 (toS S k)) ∧ Kp (Below A w wr)) (fun _ c _ => 68 - (intOf c).toNat)
  case atStart => exact ⟨0, by omega, rfl, G1, G2, ⟨by rw [toS_none]; exact G3.out⟩, G4⟩
  case round =>
    obtain ⟨k, hk, rfl, F1, F2, F3, F4⟩ := hrel
    clear G1 G2 G3 G4
    have HTl : Kp ((toS S k).length = 1088) := ⟨toS_len HS.out k⟩
    by_cases hlt : k < 68
    · have hlt' : (k : Int) < 68 := by omega
      have HN := Kp.mk (toS_step HS.out hlt)
      have HLl := Kp.mk (linkAt_len HS.out hlt)
      have HR : Kp (wr.rangeAt A (k * 16) (kv .u8 (linkAt S k))) := ⟨F1.out.mid (by rw [HS.out]; omega)⟩
      obtain ⟨z, hz⟩ : ∃ z, z = linkAt S k := ⟨_, rfl⟩
      rw [← hz] at HR HLl HN
      clear hz
      generalize toS S k = y at *
      have HT := Kp.mk (F3.out.there (o := k * 16) (n := 16) (by rw [HTl.out]; omega))
      obtain ⟨V, hV⟩ : ∃ V, V = wr.setCells (A + 2) (k * 16) (kv .u8 z) := ⟨_, rfl⟩
      have D1 : Kp (Row V A 41 .u8 S) := ⟨by rw [hV]; exact Row.otherCells (by omega) _ _ _ F1.out⟩
      have D2 : Kp (Row V (A + 1) 43 .u8 (List.replicate 1088 0)) := ⟨by rw [hV]; exact Row.otherCells (by omega) _ _ _ F2.out⟩
      have D3 : Kp (Row V (A + 2) 43 .u8 (toS S (k + 1))) := ⟨by rw [hV, ← HN.out]; exact Row.setCells z (k * 16) wr y (by rw [HTl.out, HLl.out]; omega) F3.out⟩
      have D4 : Kp (Below A w V) := ⟨by rw [hV]; exact Below.cells (by omega) _ _ _ _ F4.out⟩
      have HV := Kp.mk hV.symm
      have HCL : Kp ((Tryd.prog.info? 27).map (·.size) = some (kv .u8 z).length) := ⟨by rw [List.length_map, HLl.out]; kernel_rfl⟩
      have HC2 : Kp ((Tryd.prog.info? 25).map (·.size) = some (kv .u8 z).toArray.size) := ⟨by rw [kv_size, HLl.out]; kernel_rfl⟩
      clear hV F1 F2 F3 F4
      go_wp2_with (first
        | (refine wpList_load_mid rfl 27 (.tmp 10) rfl A (k * 16) rfl (kv .u8 z) _ HR.out Tryd.underlying27 rfl HCL.out ?_)
        | (refine wpList_store_mid rfl 25 (.tmp 12) (.tmp 11) rfl (A + 2) (k * 16) (kv .u8 z).toArray rfl rfl (by rw [kv_size, HLl.out]; exact HT.out) HC2.out (kv_all _ _) ?_; refine wpl_world (· = V) HV.out ?_; clear HV; intro W0 e0; rw [e0]; clear e0))
      exact ⟨⟨k + 1, by omega, by go_num, D1, D2, D3, D4⟩, by simp [intOf]; omega⟩
    · obtain rfl : k = 68 := by omega
      have hge : ¬ ((68 : Nat) : Int) < 68 := by omega
      have K3 : Kp (Row wr (A + 2) 43 .u8 S) := ⟨F3.out.as (toS_all HS.out)⟩
      have HC41 := Kp.mk (cells_43 HS.out)
      have HZ : Kp ((kv .u8 (List.replicate 1088 0)).toArray.size = (kv .u8 S).toArray.size) := ⟨by rw [kv_size, kv_size, HS.out, List.length_replicate]⟩
      have KR := Kp.mk (F2.out.setRow S)
      have KB := Kp.mk (Below.row F4.out (g := A + 1) (by omega) (kv .u8 S).toArray)
      clear F3
      go_wp2_with (first
        | (refine wpList_load_row rfl 43 (.tmp 3) rfl (A + 2) rfl 43 (kv .u8 S).toArray (0, 0) _ K3.out Tryd.underlying43 rfl HC41.out ?_)
        | (refine wpList_store_row rfl 43 (.tmp 2) (.tmp 14) rfl (A + 1) (kv .u8 S).toArray rfl rfl 43 _ F2.out HC41.out HZ.out (kv_all _ _) ?_))
      refine bodyPost_ret (v := .agg (kv .u8 S).toArray) (results_cell_row rfl _ _ (A + 1) 43 _ (0, 0) _ rfl KR.out Tryd.underlying43 rfl HC41.out) rfl ⟨rfl, by rw [← HA.out]; exact KB.out⟩
end Go.Proofs.YtpljjmdkagbjpaaDoor

namespace Go.Proofs.YtpljjmdkagbjpaaDoor
open Go.RowKit

theorem zeros16 : digA (List.replicate 16 0) 0 = 0 ∧ digA (List.replicate 16 0) 64 = 3 ∧ digA (List.replicate 16 0) 65 = 0 := by decide +kernel
set_option maxRecDepth 100000 in
set_option maxHeartbeats 4000000 in
theorem awake_any (w : World) : Calls Tryd.prog 8 #[] w fun r w' => r = .returned (.bool true) ∧ Below w.heap.size w w' := by
  go_enter Tryd.func8, Tryd.ntmps8
  go_wp2_with fail
  refine (digits_any (List.replicate 16 0) w (by simp) (by intro x hx; have := (List.mem_replicate.1 hx).2; omega)).mono ?_
  rintro r w1 ⟨rfl, hb⟩
  have HB := Kp.mk hb
  have h0 := digS_at (List.replicate 16 0) (c := 0) (by omega)
  have h1 := digS_at (List.replicate 16 0) (c := 64) (by omega)
  have h2 := digS_at (List.replicate 16 0) (c := 65) (by omega)
  rw [zeros16.1] at h0
  rw [zeros16.2.1] at h1
  rw [zeros16.2.2] at h2
  have hl := digS_len (List.replicate 16 0)
  generalize digS (List.replicate 16 0) = dl at *
  have HL := Kp.mk hl
  have H0 := Kp.mk (And.intro h0 (And.intro h1 h2))
  clear hb h0 h1 h2 hl
  have HC33 : Kp ((Tryd.prog.info? 51).map (·.size) = some (kv .u8 dl).toArray.size) := ⟨by rw [show (kv .u8 dl).toArray.size = 68 by simp [HL.out]]; exact size33⟩
  have HZ : Kp ((kv .u8 (List.replicate 68 0)).toArray.size = (kv .u8 dl).toArray.size) := ⟨by rw [kv_size, kv_size, HL.out]; simp⟩
  obtain ⟨B, hB⟩ : ∃ B, B = w1.heap.size := ⟨_, rfl⟩
  have HBe := Kp.mk hB
  go_wp2_with (first
    | (refine wpList_alloc_row rfl 51 rfl _ _ info33 ?_; rw [← hB]; clear hB; refine wpl_world (fun w2 => Row w2 B 51 .u8 (List.replicate 68 0) ∧ Below w.heap.size w w2) ⟨Blk.newAt _ HBe.out, HB.out.alloc HB.out.size _⟩ ?_; rintro W2 ⟨h1, h2⟩; have K1 := Kp.mk h1; have K2 := Kp.mk h2; clear h1 h2)
    | (refine wpList_store_row rfl 51 (.tmp 1) (.tmp 3) rfl B (kv .u8 dl).toArray rfl rfl 51 _ K1.out HC33.out HZ.out (kv_all _ _) ?_; refine wpl_world (fun w2 => Row w2 B 51 .u8 dl ∧ Below w.heap.size w w2) ⟨K1.out.setRow dl, Below.row K2.out (by have := HBe.out; have := HB.out.size; omega) _⟩ ?_; rintro W3 ⟨h1, h2⟩; have K3 := Kp.mk h2; have c0 := h1.cell (i := 0) (by rw [HL.out]; omega); have c1 := h1.cell (i := 64) (by rw [HL.out]; omega); have c2 := h1.cell (i := 65) (by rw [HL.out]; omega); rw [H0.out.1] at c0; rw [H0.out.2.1] at c1; rw [H0.out.2.2] at c2; clear h1 h2))
  go_ret
  exact ⟨rfl, K3.out⟩
end Go.Proofs.YtpljjmdkagbjpaaDoor

namespace Go.Proofs.YtpljjmdkagbjpaaDoor
open Go.RowKit

theorem eql27 {p : List Int} (hb : Bytes p) (h : p.length = 16) (w : World) : (binOp .eql 27 (dgV p) (dgV p)).run Tryd.prog w = .ok (.bool true) w := by
  have := run_equalIn_bytes (P := Tryd.prog) w 9998 27 5 16 Tryd.underlying27 Tryd.underlying5 size5 (p.map fun n => UInt8.ofNat n.toNat) (p.map fun n => UInt8.ofNat n.toNat) (by simp [h]) (by simp [h])
  rw [bv_cells hb] at this
  rw [run_eql_struct, this]
  simp
theorem eqg27 (p q : List Int) (x y : Operand) (w : World) : (eqGuard .eql 27 x y (dgV p) (dgV q)).run Tryd.prog w = .ok () w := by kernel_rfl
theorem to_any (d x : Int) (w : World) : Calls Tryd.prog 10 #[nameV d x] w fun q w' => q = .returned (nameV d x) ∧ Below w.heap.size w w' := by
  go_enter Tryd.func10, Tryd.ntmps10
  go_wp2_with fail
  have hr : Blk ((w.alloc (.cells #[.int .i64 d, .int .u32 x] 24)).alloc (.cells #[.int .i64 d, .int .u32 x] 29)) (w.heap.size + 1) (.cells #[.int .i64 d, .int .u32 x] 29) := Blk.newAt _ (by simp)
  refine bodyPost_ret (v := nameV d x) ?_ rfl ⟨rfl, more (more (Below.refl _ _) _) _⟩
  exact results_cell_row rfl _ _ (w.heap.size + 1) 29 _ (0, 0) _ rfl hr Tryd.underlying29 rfl (cellsN29 d x)
set_option maxRecDepth 100000 in
set_option maxHeartbeats 2000000 in
theorem links_core (d x c s : Int) (z : List Int) (w : World) (hk : KonIs w) (hx : 0 ≤ x ∧ x < 4294967296) (hz : z.length = 16) (hzb : Bytes z) :
    Calls Tryd.prog 3 #[nameV d x, .int .i64 c, .int .i64 s, dgV z] w fun e w' => e = .returned (.bool true) ∧ Below w.heap.size w w' := by
  have HK := Kp.mk hk
  have HX := Kp.mk hx
  have HZ := Kp.mk hz
  have HZB := Kp.mk hzb
  obtain ⟨q0, hq⟩ : ∃ q, q = shortL (linkT d x c s z) := ⟨_, rfl⟩
  have HQ : Kp (shortL (linkT d x c s z) = q0) := ⟨hq.symm⟩
  have HQl : Kp (q0.length = 16) := ⟨by rw [hq]; exact shortL_len _⟩
  have HQb : Kp (Bytes q0) := ⟨by rw [hq]; exact shortL_bytes _⟩
  have HTl : Kp ((headL d x ++ ([c % 256, s % 256] ++ z)).length = 23) := ⟨by simp [headL_len, hz]⟩
  clear hk hx hz hzb hq
  go_enter Tryd.func3, Tryd.ntmps3
  go_wp2_with fail
  obtain ⟨A, hA⟩ : ∃ A, A = w.heap.size := ⟨_, rfl⟩
  have HA := Kp.mk hA
  rw [← hA]
  refine wp_world (fun W => Blk W A (.cells #[.int .i64 d, .int .u32 x] 24) ∧ Row W (A + 1) 25 .u8 z ∧ Below A w W) ⟨?_, ?_, ?_⟩ ?_
  · exact Blk.old (Blk.newAt _ hA) _
  · exact Blk.newAt _ (by simp [hA])
  · rw [hA]; exact more (more (Below.refl _ _) _) _
  rintro W ⟨h1, h2, h4⟩
  have G1 := Kp.mk h1
  have G2 := Kp.mk h2
  have G4 := Kp.mk h4
  clear h1 h2 h4 hA
  refine wp_region_pred (fun w' => Blk w' A (.cells #[.int .i64 d, .int .u32 x] 24) ∧ Row w' (A + 1) 25 .u8 z ∧ Below A w w') [0, 1, 2, 3, 4, 5, 6, 7, 8, 9, 10, 11, 12, 13, 14, 15] [16]
    (fun ι w' v => match ι with
      | 2 | 3 | 8 => v = nameV d x
      | 4 | 9 => v = .int .i64 c
      | 5 | 10 => v = .int .i64 s
      | 6 | 11 => v = dgV z
      | 7 | 13 => v = dgV q0
      | 12 => HoldsB w' w'.heap.size v (linkT d x c s z)
      | _ => v = .bool true)
    [[], [(0, some 9)], [(1, some 10)], [(1, some 10), (2, some 11)], [(1, some 10)], [(1, some 10)], [(1, some 10)], [(1, some 10), (3, some 12), (4, some 13), (5, some 14), (6, some 15)], [(1, some 10)], [(1, some 10)], [(1, some 10)], [(1, some 10)], [(1, some 10), (7, some 16), (8, some 17), (9, some 18), (10, some 19), (11, some 20)], [(1, some 10), (12, some 21)], [(1, some 10), (7, some 16), (13, some 22)], [(1, some 10), (14, some 23)]]
    [(0, some 9), (1, some 10), (2, some 11), (3, some 12), (4, some 13), (5, some 14), (6, some 15), (7, some 16), (8, some 17), (9, some 18), (10, some 19), (11, some 20), (12, some 21), (13, some 22), (14, some 23), (15, some 24)]
    (by kernel_rfl) (by kernel_rfl) (by kernel_rfl) (by kernel_rfl) (by kernel_rfl) (by kernel_rfl) (by decide) (by decide) (fun w1 w2 h hb => ⟨h.1.keep hb, h.2.1.keep hb, h.2.2.trans (hb.mono (Nat.le_of_lt h.1.lt))⟩) ?_ ⟨G1.out.draw, G2.out.drew, G4.out.drew⟩ ?_ ?_
  · intro ι w1 w2 v h hb
    by_cases h12 : ι = 12
    · subst h12
      exact (HoldsB.keep h hb).mono hb.size
    match ι, h12, h with
    | 0, _, h => exact h
    | 1, _, h => exact h
    | 2, _, h => exact h
    | 3, _, h => exact h
    | 4, _, h => exact h
    | 5, _, h => exact h
    | 6, _, h => exact h
    | 7, _, h => exact h
    | 8, _, h => exact h
    | 9, _, h => exact h
    | 10, _, h => exact h
    | 11, _, h => exact h
    | 12, g, h => exact absurd rfl g
    | 13, _, h => exact h
    | 14, _, h => exact h
    | 15, _, h => exact h
    | _ + 16, _, h => exact h
  · refine ⟨fun γ wx hS h => ?_, fun γ wx hS h => ?_, fun γ wx hS h => ?_, fun γ wx hS h => ?_, fun γ wx hS h => ?_, fun γ wx hS h => ?_, fun γ wx hS h => ?_, fun γ wx hS h => ?_, fun γ wx hS h => ?_, fun γ wx hS h => ?_, fun γ wx hS h => ?_, fun γ wx hS h => ?_, fun γ wx hS h => ?_, fun γ wx hS h => ?_, fun γ wx hS h => ?_, fun γ wx hS h => ?_, trivial⟩
    · refine ⟨_, rfl, Or.inl ⟨rfl, predRun_call (f := 8) (args := #[]) (by simp only [putE]; go_simp) ?_⟩⟩
      exact (awake_any wx).mono fun e w2 ⟨h1, h2⟩ => ⟨_, h1, rfl, h2⟩
    · have h0 := h
      have e0 : γ 0 = .bool true := h0
      refine ⟨_, rfl, Or.inl ⟨rfl, predRun_value (v := .bool true) (by simp only [putE, e0]; first | rfl | (go_simp; done) | (go_simp; with_reducible rfl) | (go_simp; rfl)) rfl⟩⟩
    · have h1 := h
      have e1 : γ 1 = .bool true := h1
      refine ⟨_, rfl, Or.inl ⟨(by simp only [putE, e1]; first | kernel_rfl | rfl), predRun_value (exec_load_blk 24 (.tmp 4) rfl (A) rfl 24 _ (0, 0) _ hS.1 Tryd.underlying24 rfl (cellsN24 d x)) rfl⟩⟩
    · obtain ⟨h1, h2⟩ := h
      have e1 : γ 1 = .bool true := h1
      have e2 : γ 2 = nameV d x := h2
      refine ⟨_, rfl, Or.inl ⟨(by simp only [putE, e1, e2]; first | kernel_rfl | rfl), predRun_call (f := 10) (args := #[nameV d x]) (by simp only [putE, e1, e2]; go_simp) ?_⟩⟩
      exact (to_any d x wx).mono fun e w2 ⟨h1, h2⟩ => ⟨_, h1, rfl, h2⟩
    · have h1 := h
      have e1 : γ 1 = .bool true := h1
      refine ⟨_, rfl, Or.inl ⟨(by simp only [putE, e1]; first | kernel_rfl | rfl), predRun_value (v := .int .i64 c) (by simp only [putE, e1]; first | rfl | (go_simp; done) | (go_simp; with_reducible rfl) | (go_simp; rfl)) rfl⟩⟩
    · have h1 := h
      have e1 : γ 1 = .bool true := h1
      refine ⟨_, rfl, Or.inl ⟨(by simp only [putE, e1]; first | kernel_rfl | rfl), predRun_value (v := .int .i64 s) (by simp only [putE, e1]; first | rfl | (go_simp; done) | (go_simp; with_reducible rfl) | (go_simp; rfl)) rfl⟩⟩
    · have h1 := h
      have e1 : γ 1 = .bool true := h1
      refine ⟨_, rfl, Or.inl ⟨(by simp only [putE, e1]; first | kernel_rfl | rfl), predRun_value (exec_load_blk 25 (.tmp 7) rfl (A + 1) rfl 25 _ (0, 0) _ hS.2.1 Tryd.underlying25 rfl (cells49 HZ.out)) rfl⟩⟩
    · obtain ⟨h1, h3, h4, h5, h6⟩ := h
      have e1 : γ 1 = .bool true := h1
      have e3 : γ 3 = nameV d x := h3
      have e4 : γ 4 = .int .i64 c := h4
      have e5 : γ 5 = .int .i64 s := h5
      have e6 : γ 6 = dgV z := h6
      refine ⟨_, rfl, Or.inl ⟨(by simp only [putE, e1, e3, e4, e5, e6]; first | kernel_rfl | rfl), predRun_call (f := 9) (args := #[nameV d x, .int .i64 c, .int .i64 s, dgV z]) (by simp only [putE, e1, e3, e4, e5, e6]; go_simp) ?_⟩⟩
      exact (link_any d x c s z wx (HK.out.keep (by rw [← HA.out]; exact hS.2.2)) HX.out HZ.out HZB.out).mono fun e w2 ⟨h1, h2⟩ => ⟨_, h1, (show dgV (shortL (linkT d x c s z)) = dgV q0 by rw [HQ.out]), h2⟩
    · have h1 := h
      have e1 : γ 1 = .bool true := h1
      refine ⟨_, rfl, Or.inl ⟨(by simp only [putE, e1]; first | kernel_rfl | rfl), predRun_value (exec_load_blk 24 (.tmp 4) rfl (A) rfl 24 _ (0, 0) _ hS.1 Tryd.underlying24 rfl (cellsN24 d x)) rfl⟩⟩
    · have h1 := h
      have e1 : γ 1 = .bool true := h1
      refine ⟨_, rfl, Or.inl ⟨(by simp only [putE, e1]; first | kernel_rfl | rfl), predRun_value (v := .int .i64 c) (by simp only [putE, e1]; first | rfl | (go_simp; done) | (go_simp; with_reducible rfl) | (go_simp; rfl)) rfl⟩⟩
    · have h1 := h
      have e1 : γ 1 = .bool true := h1
      refine ⟨_, rfl, Or.inl ⟨(by simp only [putE, e1]; first | kernel_rfl | rfl), predRun_value (v := .int .i64 s) (by simp only [putE, e1]; first | rfl | (go_simp; done) | (go_simp; with_reducible rfl) | (go_simp; rfl)) rfl⟩⟩
    · have h1 := h
      have e1 : γ 1 = .bool true := h1
      refine ⟨_, rfl, Or.inl ⟨(by simp only [putE, e1]; first | kernel_rfl | rfl), predRun_value (exec_load_blk 25 (.tmp 7) rfl (A + 1) rfl 25 _ (0, 0) _ hS.2.1 Tryd.underlying25 rfl (cells49 HZ.out)) rfl⟩⟩
    · obtain ⟨h1, h7, h8, h9, h10, h11⟩ := h
      have e1 : γ 1 = .bool true := h1
      have e7 : γ 7 = dgV q0 := h7
      have e8 : γ 8 = nameV d x := h8
      have e9 : γ 9 = .int .i64 c := h9
      have e10 : γ 10 = .int .i64 s := h10
      have e11 : γ 11 = dgV z := h11
      refine ⟨_, rfl, Or.inl ⟨(by simp only [putE, e1, e7, e8, e9, e10, e11]; first | kernel_rfl | rfl), predRun_call (f := 12) (args := #[nameV d x, .int .i64 c, .int .i64 s, dgV z]) (by simp only [putE, e1, e7, e8, e9, e10, e11]; go_simp) ?_⟩⟩
      exact (rlink_any d x c s z wx HX.out HZ.out HZB.out).mono fun e w2 ⟨v', h1, h2, h3⟩ => ⟨_, h1, h2, h3⟩
    · obtain ⟨h1, h12⟩ := h
      have e1 : γ 1 = .bool true := h1
      have p12 : HoldsB wx wx.heap.size (γ 12) (linkT d x c s z) := h12
      obtain ⟨a, n, c1, e12, _⟩ := p12.slice
      rw [e12] at p12
      refine ⟨_, rfl, Or.inl ⟨(by simp only [putE, e1]; first | kernel_rfl | rfl), predRun_call (f := 11) (args := #[.slice a n c1]) (by simp only [putE, e12]; go_simp) ?_⟩⟩
      exact (of_any _ _ 87 _ wx p12 (by rw [HTl.out]; omega)).mono fun e w2 ⟨h1, h2⟩ => ⟨_, h1, (show dgV (shortL (linkT d x c s z)) = dgV q0 by rw [HQ.out]), h2⟩
    · obtain ⟨h1, h7, h13⟩ := h
      have e1 : γ 1 = .bool true := h1
      have e7 : γ 7 = dgV q0 := h7
      have e13 : γ 13 = dgV q0 := h13
      refine ⟨_, rfl, Or.inl ⟨(by simp only [putE, e1, e7, e13]; first | kernel_rfl | rfl), predRun_value (v := .bool true) (by simp only [putE, e1, e7, e13]; have hg := eqg27 q0 q0; have he := eql27 HQb.out HQl.out; first | rfl | (go_simp; done) | (go_simp; with_reducible rfl) | (go_simp; rfl)) rfl⟩⟩
    · obtain ⟨h1, h14⟩ := h
      have e1 : γ 1 = .bool true := h1
      have e14 : γ 14 = .bool true := h14
      refine ⟨_, rfl, Or.inl ⟨rfl, predRun_value (v := .bool true) (by simp only [putE, e1, e14]; first | rfl | (go_simp; done) | (go_simp; with_reducible rfl) | (go_simp; rfl)) rfl⟩⟩
  · intro γ w9 hS h
    have h15 : γ 15 = .bool true := h.2.2.2.2.2.2.2.2.2.2.2.2.2.2.2
    have HB := Kp.mk hS.2.2
    simp only [putE, Act.put, List.setIfInBounds_toArray, List.set_cons_zero, List.set_cons_succ]
    rw [h15]
    clear h hS h15 G1 G2 G4
    refine wpOps_step rfl rfl ?_
    refine wp_assign_end rfl rfl ?_
    refine wpOps_done ?_
    go_wp2_with fail
    go_ret
    exact ⟨rfl, by rw [← HA.out]; exact HB.out⟩
theorem otsLinks_walk (x0_0 x0_1 x1 x2 : Int) (x3 : List Int) (w : World) (w0_0 : (Lit.int .i64 x0_0).wf = true) (w0_1 : (Lit.int .u32 x0_1).wf = true) (w1 : (Lit.int .i64 x1).wf = true) (w2 : (Lit.int .i64 x2).wf = true) (l3 : x3.length = 16) (b3 : Bytes x3) (hk : KonIs w) :
    Calls Tryd.prog 3 #[.agg #[.int .i64 x0_0, .int .u32 x0_1], .int .i64 x1, .int .i64 x2, .agg (kv .u8 x3).toArray] w fun e w' => e = .returned (.bool true) ∧ Below w.heap.size w w' :=
  links_core x0_0 x0_1 x1 x2 x3 w hk (by have hb1 : IntKind.u32.min = 0 := rfl; have hb2 : IntKind.u32.max = 4294967295 := rfl; simp [Lit.wf, hb1, hb2] at w0_1; omega) l3 b3
end Go.Proofs.YtpljjmdkagbjpaaDoor
