/-
  The document's Public, Sign.
  Arrays of short sums, compared.
  The example of layer 10.
-/
import Derived.Test.YtpljjmdkagbjpaaDoorOd13
import Derived.DeepKeys
namespace Go.Proofs.YtpljjmdkagbjpaaDoor
open Go.RowKit

/-- The texts behind k chains of a key. -/
def pubTL (s : List Int) (d x : Int) : Nat → List (List Int)
  | 0 => []
  | k + 1 => pubTL s d x k ++ runT d x k 0 (ownS s d x k 0) 3
theorem pubTL_len (s : List Int) (d x : Int) : ∀ k, (pubTL s d x k).length = 3 * k
  | 0 => rfl
  | k + 1 => by
    have := pubTL_len s d x k
    rw [pubTL, List.length_append, runT_len]
    omega
theorem pubTL_heads (s : List Int) (d x : Int) : ∀ k, Heads (pubTL s d x k)
  | 0 => Heads.nil
  | k + 1 => (pubTL_heads s d x k).append (runT_heads _ _ _ _ _ _)
set_option maxRecDepth 100000 in
set_option maxHeartbeats 8000000 in
theorem rpublic_any (s : List Int) (d x : Int) (w : World) (hx : 0 ≤ x ∧ x < 4294967296) (hs : s.length = 32) (hsb : Bytes s) :
    Calls Tryd.prog 14 #[.agg (kv .u8 s).toArray, nameV d x] w fun q w' => ∃ v, q = .returned (.tuple #[dgV (shortL (wholeT d x (topS s d x))), v]) ∧ TextsO w' w.heap.size v (pubTL s d x 68 ++ [wholeT d x (topS s d x)]) ∧ Below w.heap.size w w' := by
  have HX := Kp.mk hx
  have HS := Kp.mk (And.intro hs hsb)
  have hC := fun (w : World) => box_row (t := 35) (cs := kv .u8 s) (cellsS35 hs) w
  obtain ⟨G, hG⟩ : ∃ G : Nat → List Int, G = fun c => ownS s d x c 3 := ⟨_, rfl⟩
  have HG := Kp.mk hG
  have HGl : Kp (∀ c, (G c).length = 16) := ⟨by rw [hG]; exact fun c => ownS_len _ _ _ _ _⟩
  clear hx hs hsb hG
  go_enter Tryd.func14, Tryd.ntmps14
  go_wp2_with (first
    | (refine wpList_box_eq rfl 35 (.tmp 0) rfl _ rfl _ _ (hC _) ?_)
    | (refine wpList_alloc_row rfl 43 rfl _ _ infoz43 ?_))
  obtain ⟨A, hA⟩ : ∃ A, A = w.heap.size := ⟨_, rfl⟩
  have HA := Kp.mk hA
  rw [← hA]
  refine wp_world (fun W => Row W A 35 .u8 s ∧ Blk W (A + 1) (.cells #[.int .i64 d, .int .u32 x] 24) ∧ Row W (A + 2) 25 .u8 (fill 16 []) ∧ Row W (A + 3) 43 .u8 (List.replicate 1088 0) ∧ Below A w W) ⟨?_, ?_, ?_, ?_, ?_⟩ ?_
  · exact Blk.old (Blk.old (Blk.old (Blk.newAt _ hA) _) _) _
  · exact Blk.old (Blk.old (Blk.newAt _ (by simp [hA])) _) _
  · exact Blk.old (Blk.newAt _ (by simp [hA])) _
  · exact Blk.newAt _ (by simp [hA])
  · rw [hA]; exact more (more (more (more (Below.refl _ _) _) _) _) _
  rw [show A + 1 + 1 + 1 = A + 3 from rfl, show A + 1 + 1 = A + 2 from rfl]
  clear hA hC
  rintro W ⟨h1, h2, h3, h5, h4⟩
  have G1 := Kp.mk h1
  have G2 := Kp.mk h2
  have G3 := Kp.mk h3
  have G5 := Kp.mk h5
  have G4 := Kp.mk h4
  clear h1 h2 h3 h4 h5
  go_loopw [7, 8] (fun v7 c wr => ∃ k : Nat, k ≤ 68 ∧ c = .int .i64 k ∧ Kp (TextsO wr (A + 4) v7 (pubTL s d x k)) ∧ Kp (Row wr A 35 .u8 s) ∧ Kp (Blk wr (A + 1) (.cells #[.int .i64 d, .int .u32 x] 24)) ∧ Kp (Row wr (A + 2) 25 .u8 (fill 16 [])) ∧ Kp (Row wr (A + 3) 43 .u8 (padS G k)) ∧ Kp (Below A w wr)) (fun _ c _ => 68 - (intOf c).toNat)
  case atStart => exact ⟨0, by omega, rfl, ⟨TextsO.nil _ _⟩, G1, G2, G3, ⟨by rw [padS_none]; exact G5.out⟩, G4⟩
  case round =>
    obtain ⟨k, hk, rfl, F0, F1, F2, F3, F5, F4⟩ := hrel
    clear G1 G2 G3 G4 G5
    by_cases hlt : k < 68
    · have hlt' : (k : Int) < 68 := by omega
      have HYl := Kp.mk (padS_len HGl.out hk)
      have HYn := Kp.mk (padS_step HGl.out hlt)
      generalize padS G k = y at *
      obtain ⟨u, hu⟩ : ∃ u, u = G k := ⟨_, rfl⟩
      rw [← hu] at HYn
      have HUl : Kp (u.length = 16) := ⟨by rw [hu]; exact HGl.out k⟩
      obtain ⟨z, hz⟩ : ∃ z, z = ownS s d x k 0 := ⟨_, rfl⟩
      have HZ := Kp.mk hz
      have HZl : Kp (z.length = 16) := ⟨by rw [hz]; exact ownS_len _ _ _ _ _⟩
      have HZb : Kp (Bytes z) := ⟨by rw [hz]; exact ownS_bytes _ _ _ _ _⟩
      have HC := Kp.mk (cellsT25 HUl.out)
      have HZ16 := Kp.mk (size50 HUl.out)
      have HU : Kp (u = runS d x k 0 z 3) := ⟨by rw [hu, hz, HG.out]; rfl⟩
      have HTn := Kp.mk (show pubTL s d x (k + 1) = pubTL s d x k ++ runT d x k 0 (ownS s d x k 0) 3 from rfl)
      have HTH := Kp.mk (pubTL_heads s d x k)
      have HTL : Kp ((pubTL s d x k).length ≤ 204) := ⟨by have := pubTL_len s d x k; omega⟩
      generalize pubTL s d x k = ts at *
      obtain ⟨tz, htz⟩ : ∃ tz, tz = runT d x k 0 z 3 := ⟨_, rfl⟩
      rw [← hz, ← htz] at HTn
      have HTZ := Kp.mk htz
      have HZH : Kp (Heads tz) := ⟨by rw [htz]; exact runT_heads _ _ _ _ _ _⟩
      have HTZl : Kp (tz.length ≤ 3) := ⟨by rw [htz, runT_len]; omega⟩
      obtain ⟨D, hD⟩ : ∃ D, D = wr.heap.size := ⟨_, rfl⟩
      have HD : Kp (D ≤ wr.heap.size) := ⟨by omega⟩
      have HDlo : Kp (A + 4 ≤ D) := ⟨by rw [hD]; exact F5.out.lt⟩
      have HOB : Kp (∀ g, u7.ownBlock = some g → g < D) := ⟨fun g hg => by rw [hD]; exact F0.out.lt g hg⟩
      clear hD hu hz htz
      go_wp2_with fail
      refine wp_region_predQ (fun w' => Row w' A 35 .u8 s ∧ Blk w' (A + 1) (.cells #[.int .i64 d, .int .u32 x] 24) ∧ Row w' (A + 2) 25 .u8 (fill 16 []) ∧ Row w' (A + 3) 43 .u8 y ∧ TextsO w' (A + 4) u7 ts ∧ D ≤ w'.heap.size ∧ Below A w w') [0, 1, 2, 3, 4, 5, 6, 7, 8, 9, 10] [9] [11, 12]
        (fun ι w' v => match ι with
          | 0 | 3 => v = nameV d x
          | 1 | 4 => v = .int .i64 k
          | 2 => v = .agg (kv .u8 s).toArray
          | 5 => v = dgV z
          | 8 => v = dgV u
          | 6 => ∃ t Q, v = .tuple #[dgV u, t] ∧ D ≤ Q ∧ TextsO w' Q t tz
          | 7 => ∃ t Q, v = .tuple #[dgV u, t] ∧ D ≤ Q ∧ TextsO w' Q t tz
          | 9 => ∃ Q, D ≤ Q ∧ TextsO w' Q v tz
          | 10 => ∃ gq, v = .pointer (some ⟨gq, 0, none⟩) ∧ A + 3 < gq ∧ Row w' gq 25 .u8 (fill 16 [])
          | _ => v = .bool true)
        [[], [], [], [], [], [(2, some 19), (3, some 20), (4, some 21)], [(0, some 17), (1, some 18), (5, some 22)], [(6, some 23)], [(7, some 16)], [(7, some 16)], []]
        [[(7, some 16)]]
        [(0, some 17), (1, some 18), (2, some 19), (3, some 20), (4, some 21), (5, some 22), (6, some 23), (7, some 16), (8, some 24), (9, some 25), (10, some 9)]
        (by kernel_rfl) (by kernel_rfl) (by kernel_rfl) (by kernel_rfl) (by kernel_rfl) (by kernel_rfl) (by kernel_rfl) (by decide) (by decide) (fun w1 w2 h hb => ⟨h.1.keep hb, h.2.1.keep hb, h.2.2.1.keep hb, h.2.2.2.1.keep hb, h.2.2.2.2.1.below hb, Nat.le_trans h.2.2.2.2.2.1 hb.size, h.2.2.2.2.2.2.trans (hb.mono (Nat.le_of_lt h.1.lt))⟩) (fun c a w d v h => by cases d <;> exact h) ?_ ⟨F1.out.drew, F2.out.draw, F3.out.drew, F5.out.drew, F0.out.drew, HD.out, F4.out.drew⟩ ?_ ?_ ?_
      · intro ι w1 w2 v h hb
        by_cases h6 : ι = 6
        · subst h6
          exact (show ∃ t Q, _ ∧ D ≤ Q ∧ TextsO w2 Q t tz from (by obtain ⟨t, Q, e, hq, ht⟩ := h; exact ⟨t, Q, e, hq, ht.below hb⟩))
        by_cases h7 : ι = 7
        · subst h7
          exact (show ∃ t Q, _ ∧ D ≤ Q ∧ TextsO w2 Q t tz from (by obtain ⟨t, Q, e, hq, ht⟩ := h; exact ⟨t, Q, e, hq, ht.below hb⟩))
        by_cases h9 : ι = 9
        · subst h9
          exact (show ∃ Q, D ≤ Q ∧ TextsO w2 Q v tz from (by obtain ⟨Q, hq, ht⟩ := h; exact ⟨Q, hq, ht.below hb⟩))
        by_cases h10 : ι = 10
        · subst h10
          exact (show ∃ gq, v = .pointer (some ⟨gq, 0, none⟩) ∧ (A + 3) < gq ∧ Row w2 gq 25 .u8 (fill 16 []) from (by obtain ⟨gq, e, h1, hg⟩ := h; exact ⟨gq, e, h1, hg.keep hb⟩))
        match ι, h6, h7, h9, h10, h with
        | 0, _, _, _, _, h => exact h
        | 1, _, _, _, _, h => exact h
        | 2, _, _, _, _, h => exact h
        | 3, _, _, _, _, h => exact h
        | 4, _, _, _, _, h => exact h
        | 5, _, _, _, _, h => exact h
        | 6, g, _, _, _, h => exact absurd rfl g
        | 7, _, g, _, _, h => exact absurd rfl g
        | 8, _, _, _, _, h => exact h
        | 9, _, _, g, _, h => exact absurd rfl g
        | 10, _, _, _, g, h => exact absurd rfl g
        | _ + 11, _, _, _, _, h => exact h
      · refine ⟨fun γ wx hS h => ?_, fun γ wx hS h => ?_, fun γ wx hS h => ?_, fun γ wx hS h => ?_, fun γ wx hS h => ?_, fun γ wx hS h => ?_, fun γ wx hS h => ?_, fun γ wx hS h => ?_, fun γ wx hS h => ?_, fun γ wx hS h => ?_, fun γ wx hS h => ?_, trivial⟩
        · refine ⟨_, rfl, Or.inl ⟨rfl, predRun_value (exec_load_blk 24 (.tmp 3) rfl (A + 1) rfl 24 _ (0, 0) _ hS.2.1 Tryd.underlying24 rfl (cellsN24 d x)) rfl⟩⟩
        · refine ⟨_, rfl, Or.inl ⟨rfl, predRun_value (v := .int .i64 k) (by simp only [putE]; first | rfl | (go_simp; done) | (go_simp; with_reducible rfl) | (go_simp; rfl)) rfl⟩⟩
        · refine ⟨_, rfl, Or.inl ⟨rfl, predRun_value (exec_load_blk 35 (.tmp 2) rfl (A) rfl 35 _ (0, 0) _ hS.1 Tryd.underlying35 rfl (cellsS35 HS.out.1)) rfl⟩⟩
        · refine ⟨_, rfl, Or.inl ⟨rfl, predRun_value (exec_load_blk 24 (.tmp 3) rfl (A + 1) rfl 24 _ (0, 0) _ hS.2.1 Tryd.underlying24 rfl (cellsN24 d x)) rfl⟩⟩
        · refine ⟨_, rfl, Or.inl ⟨rfl, predRun_value (v := .int .i64 k) (by simp only [putE]; first | rfl | (go_simp; done) | (go_simp; with_reducible rfl) | (go_simp; rfl)) rfl⟩⟩
        · obtain ⟨h2, h3, h4⟩ := h
          have e2 : γ 2 = .agg (kv .u8 s).toArray := h2
          have e3 : γ 3 = nameV d x := h3
          have e4 : γ 4 = .int .i64 k := h4
          refine ⟨_, rfl, Or.inl ⟨rfl, predRun_call (f := 50) (args := #[.agg (kv .u8 s).toArray, nameV d x, .int .i64 k]) (by simp only [putE, e2, e3, e4]; go_simp) ?_⟩⟩
          exact (ostart_any s d x k wx HX.out HS.out.1 HS.out.2 hlt).mono fun e w2 ⟨h1, h2⟩ => ⟨_, h1, (show dgV (ownS s d x k 0) = dgV z by rw [HZ.out]), h2⟩
        · obtain ⟨h0, h1, h5⟩ := h
          have e0 : γ 0 = nameV d x := h0
          have e1 : γ 1 = .int .i64 k := h1
          have e5 : γ 5 = dgV z := h5
          refine ⟨_, rfl, Or.inl ⟨rfl, predRun_call (f := 22) (args := #[nameV d x, .int .i64 k, .int .i64 0, .int .i64 3, dgV z]) (by simp only [putE, e0, e1, e5]; go_simp) ?_⟩⟩
          exact (rrun_any d x k 0 3 z wx HX.out (by omega) (by omega) HZl.out HZb.out).mono fun e w2 ⟨v, h1, h2, h3⟩ => ⟨_, h1, ⟨v, wx.heap.size, (show Value.tuple #[dgV (runS d x k ((0 : Nat) : Int) z (3 - 0)), v] = _ by rw [HU.out]; rfl), hS.2.2.2.2.2.1, (show TextsO w2 wx.heap.size v tz by rw [HTZ.out]; exact h2)⟩, h3⟩
        · have h6 := h
          have p6 : ∃ t Q, (γ 6) = .tuple #[dgV u, t] ∧ D ≤ Q ∧ TextsO wx Q t tz := h6
          obtain ⟨t, Q, e6, hq, ht⟩ := p6
          refine ⟨_, rfl, Or.inl ⟨rfl, predRun_value (v := .tuple #[dgV u, t]) (by simp only [putE, e6]; first | rfl | (go_simp; done) | (go_simp; rfl)) ⟨t, Q, rfl, hq, ht⟩⟩⟩
        · have h7 := h
          have p7 : ∃ t Q, (γ 7) = .tuple #[dgV u, t] ∧ D ≤ Q ∧ TextsO wx Q t tz := h7
          obtain ⟨t, Q, e7, hq, ht⟩ := p7
          refine ⟨_, rfl, Or.inl ⟨rfl, predRun_value (v := dgV u) (by simp only [putE, e7]; first | rfl | (go_simp; done) | (go_simp; rfl)) rfl⟩⟩
        · have h7 := h
          have p7 : ∃ t Q, (γ 7) = .tuple #[dgV u, t] ∧ D ≤ Q ∧ TextsO wx Q t tz := h7
          obtain ⟨t, Q, e7, hq, ht⟩ := p7
          refine ⟨_, rfl, Or.inl ⟨rfl, predRun_value (v := t) (by simp only [putE, e7]; first | rfl | (go_simp; done) | (go_simp; rfl)) ⟨Q, hq, ht⟩⟩⟩
        · refine ⟨_, rfl, Or.inl ⟨rfl, predRun_new (w' := wx.alloc z16r) (v := .pointer (some ⟨wx.heap.size, 0, none⟩)) (by simp only [putE]; first | rfl | (go_simp; done) | (go_simp; rfl)) (more (Below.refl _ _) _) ⟨_, rfl, hS.2.2.2.1.lt, Blk.new _ _⟩⟩⟩
      · refine ⟨fun γ wx hS h => ?_, trivial⟩
        · have h7 := h
          have p7 : ∃ t Q, (γ 7) = .tuple #[dgV u, t] ∧ D ≤ Q ∧ TextsO wx Q t tz := h7
          obtain ⟨t, Q, e7, hq, ht⟩ := p7
          refine ⟨_, t, rfl, Or.inl ⟨rfl, fun wz => by simp only [putE, e7]; first | rfl | (go_simp; done) | (go_simp; rfl)⟩, ⟨Q, hq, ht⟩⟩
      · intro γ w9 hS h
        have e8 : γ 8 = dgV u := h.2.2.2.2.2.2.2.2.1
        obtain ⟨Q, hDQ, h9⟩ : ∃ Q, D ≤ Q ∧ TextsO w9 Q (γ 9) tz := h.2.2.2.2.2.2.2.2.2.1
        obtain ⟨gq, e10, hAg, hg⟩ : ∃ gq, γ 10 = .pointer (some ⟨gq, 0, none⟩) ∧ A + 3 < gq ∧ Row w9 gq 25 .u8 (fill 16 []) := h.2.2.2.2.2.2.2.2.2.2
        simp only [putE, Act.put, List.setIfInBounds_toArray, List.set_cons_zero, List.set_cons_succ]
        rw [e8, e10]
        have HGA : Kp (Row w9 gq 25 .u8 (fill 16 [])) := ⟨hg⟩
        obtain ⟨W9, hW9⟩ : ∃ W9, W9 = w9.setRow gq (kv .u8 u).toArray := ⟨_, rfl⟩
        have EG : Kp (Row W9 gq 25 .u8 u) := ⟨by rw [hW9]; exact HGA.out.setRow u⟩
        have E0 : Kp (TextsO W9 (A + 4) u7 ts) := ⟨by rw [hW9]; exact hS.2.2.2.2.1.zero hg HTH.out _⟩
        have ET : Kp (TextsO W9 Q (γ 9) tz) := ⟨by rw [hW9]; exact h9.zero hg HZH.out _⟩
        have E1 : Kp (Row W9 A 35 .u8 s) := ⟨by rw [hW9]; exact Row.otherRow hS.1 (by omega) _⟩
        have E2 : Kp (Blk W9 (A + 1) (.cells #[.int .i64 d, .int .u32 x] 24)) := ⟨by rw [hW9]; exact (setRow_other w9 gq (A + 1) _ (by omega)).trans hS.2.1⟩
        have E3 : Kp (Row W9 (A + 2) 25 .u8 (fill 16 [])) := ⟨by rw [hW9]; exact Row.otherRow hS.2.2.1 (by omega) _⟩
        have E5 : Kp (Row W9 (A + 3) 43 .u8 y) := ⟨by rw [hW9]; exact Row.otherRow hS.2.2.2.1 (by omega) _⟩
        have E4 : Kp (Below A w W9) := ⟨by rw [hW9]; exact Below.row hS.2.2.2.2.2.2 (by omega) _⟩
        have HWk := Kp.mk hW9
        have HDQ := Kp.mk hDQ
        clear h hS e8 e10 h9 hg F0 F1 F2 F3 F4 F5 hW9 hDQ
        generalize γ 9 = v9 at *
        refine wpOps_step rfl rfl ?_
        refine wp_store_row 25 (.tmp 9) (.tmp 24) rfl gq (kv .u8 u).toArray rfl rfl 25 _ HGA.out HC.out HZ16.out (kv_all _ _) ?_
        rw [← HWk.out]
        clear HWk HGA
        refine wpOps_step rfl rfl ?_
        refine wp_assign_end rfl rfl ?_
        refine wpOps_done ?_
        have HTHR := Kp.mk (E5.out.there (o := k * 16) (n := 16) (by rw [HYl.out]; omega))
        obtain ⟨V, hV⟩ : ∃ V, V = W9.setCells (A + 3) (k * 16) (kv .u8 u) := ⟨_, rfl⟩
        have D0 : Kp (TextsO V (A + 4) u7 ts) := ⟨by rw [hV]; exact E0.out.mid (by omega) _ _⟩
        have DT : Kp (TextsO V Q v9 tz) := ⟨by rw [hV]; exact ET.out.mid (by have := HDQ.out; have := HDlo.out; omega) _ _⟩
        have D1 : Kp (Row V A 35 .u8 s) := ⟨by rw [hV]; exact Row.otherCells (by omega) _ _ _ E1.out⟩
        have D2 : Kp (Blk V (A + 1) (.cells #[.int .i64 d, .int .u32 x] 24)) := ⟨by rw [hV]; exact Blk.otherCells (by omega) _ _ _ E2.out⟩
        have D3 : Kp (Row V (A + 2) 25 .u8 (fill 16 [])) := ⟨by rw [hV]; exact Row.otherCells (by omega) _ _ _ E3.out⟩
        have D5 : Kp (Row V (A + 3) 43 .u8 (padS G (k + 1))) := ⟨by rw [hV, ← HYn.out]; exact Row.setCells u (k * 16) W9 y (by rw [HYl.out, HUl.out]; omega) E5.out⟩
        have D4 : Kp (Below A w V) := ⟨by rw [hV]; exact Below.cells (by omega) _ _ _ _ E4.out⟩
        have D6 : Kp (A + 4 ≤ V.heap.size) := ⟨D5.out.lt⟩
        have HV := Kp.mk hV.symm
        clear hV E0 ET E1 E2 E3 E4 E5
        go_wp2_with (first
          | (refine wpList_load_row rfl 25 (.tmp 9) rfl gq rfl 25 (kv .u8 u).toArray (0, 0) _ EG.out Tryd.underlying25 rfl HC.out ?_)
          | (refine wpList_store_mid rfl 25 (.tmp 28) (.tmp 27) rfl (A + 3) (k * 16) (kv .u8 u).toArray rfl rfl (by rw [kv_size, HUl.out]; exact HTHR.out) HC.out (kv_all _ _) ?_; refine wpl_world (· = V) HV.out ?_; clear HV; intro W0 e0; rw [e0]; clear e0)
          | (at_builtin; refine wpList_append_textsO rfl _ _ rfl (A + 4) u7 ts rfl D0.out Q v9 tz rfl DT.out ?c0 ?c1 ?c2 D6.out ?_))
        case c0 => have := HDQ.out; have := HDlo.out; omega
        case c1 => exact fun g hg => Nat.lt_of_lt_of_le (HOB.out g hg) HDQ.out
        case c2 => have := HTL.out; have := HTZl.out; omega
        intro v9' w9' k1 k2
        have X0 : Kp (TextsO w9' (A + 4) v9' (pubTL s d x (k + 1))) := ⟨by rw [HTn.out]; exact k1⟩
        have X1 : Kp (Row w9' A 35 .u8 s) := ⟨D1.out.upto k2 (by omega)⟩
        have X2 : Kp (Blk w9' (A + 1) (.cells #[.int .i64 d, .int .u32 x] 24)) := ⟨D2.out.upto k2 (by omega)⟩
        have X3 : Kp (Row w9' (A + 2) 25 .u8 (fill 16 [])) := ⟨D3.out.upto k2 (by omega)⟩
        have X5 : Kp (Row w9' (A + 3) 43 .u8 (padS G (k + 1))) := ⟨D5.out.upto k2 (by omega)⟩
        have X4 : Kp (Below A w w9') := ⟨D4.out.trans (k2.mono (by omega))⟩
        clear k1 k2 D0 DT D1 D2 D3 D4 D5 D6 HYn HTn
        go_wp2_with fail
        exact ⟨⟨k + 1, by omega, by go_num, X0, X1, X2, X3, X5, X4⟩, by simp [intOf]; omega⟩
    · obtain rfl : k = 68 := by omega
      have hge : ¬ ((68 : Nat) : Int) < 68 := by omega
      have K5 : Kp (Row wr (A + 3) 43 .u8 (topS s d x)) := ⟨by have h := F5.out; rw [padS_all, HG.out] at h; exact h⟩
      have HT := Kp.mk (And.intro (topS_len s d x) (topS_bytes s d x))
      have HTL : Kp ((pubTL s d x 68).length ≤ 204) := ⟨Nat.le_of_eq (pubTL_len s d x 68)⟩
      generalize hts : pubTL s d x 68 = ts at *
      generalize hy : topS s d x = y at *
      have HTS := Kp.mk hts
      have HYS := Kp.mk hy
      clear hts hy
      have HF5 : Kp (A + 3 < wr.heap.size) := ⟨K5.out.lt⟩
      clear F5
      go_wp2_with (first
        | (refine wpList_load_row rfl 24 (.tmp 3) rfl (A + 1) rfl 24 _ (0, 0) _ F2.out Tryd.underlying24 rfl (cellsN24 d x) ?_)
        | (refine wpList_load_row rfl 43 (.tmp 6) rfl (A + 3) rfl 43 (kv .u8 y).toArray (0, 0) _ K5.out Tryd.underlying43 rfl (cellsT43 HT.out.1) ?_))
      refine (press_any d x y wr HX.out HT.out.1 HT.out.2).mono ?_
      rintro q w3 ⟨v3, rfl, hh, hfr, hb⟩
      have HWL : Kp ((wholeT d x y).length = 1094) := ⟨by simp [wholeT, headL_len, HT.out.1]⟩
      obtain ⟨tl, htl⟩ : ∃ tl, wholeT d x y = 80 :: tl := ⟨_, rfl⟩
      rw [htl] at hh HWL
      have HWT := Kp.mk htl
      clear htl
      have C0 : Kp (TextsO w3 (A + 4) u7 ts) := ⟨F0.out.below hb⟩
      have CH := Kp.mk hh
      have C3 := Kp.mk (F3.out.keep hb)
      have C4 : Kp (Below A w w3) := ⟨F4.out.trans (hb.mono (by have := F3.out.lt; omega))⟩
      have CF : Kp (∀ g, v3.ownBlock = some g → A + 4 ≤ g ∧ u7.ownBlock ≠ some g) := ⟨fun g hg => by
        have h1 := hfr g hg
        have h2 := HF5.out
        exact ⟨by omega, fun e => by have := F0.out.lt g e; omega⟩⟩
      have CB : Kp (A + 4 ≤ w3.heap.size) := ⟨by have := HF5.out; have := hb.size; omega⟩
      clear hh hfr hb F0 F1 F2 F3 F4 K5
      go_wp2_with fail
      refine (of_any _ _ 80 tl w3 CH.out (by have := HWL.out; simp at this; omega)).mono ?_
      rintro q w4 ⟨rfl, hb⟩
      obtain ⟨q0, hq⟩ : ∃ q, q = shortL (80 :: tl) := ⟨_, rfl⟩
      rw [← hq]
      have HQl : Kp (q0.length = 16) := ⟨by rw [hq]; exact shortL_len _⟩
      have HQ := Kp.mk hq
      clear hq
      obtain ⟨a1, n1, c1, rfl, -⟩ := CH.out.slice
      have M0 : Kp (TextsO (w4.alloc (.cells #[.slice a1 n1 c1] 32)) (A + 4) u7 ts) := ⟨(C0.out.below hb).below (more (Below.refl _ _) _)⟩
      have MH : Kp (HoldsB (w4.alloc (.cells #[.slice a1 n1 c1] 32)) (w4.alloc (.cells #[.slice a1 n1 c1] 32)).heap.size (.slice a1 n1 c1) (80 :: tl)) := ⟨(HoldsB.keep (HoldsB.keep CH.out hb) (more (Below.refl _ _) _)).mono (by have := hb.size; simp; omega)⟩
      have MC : Kp ((w4.alloc (.cells #[.slice a1 n1 c1] 32)).cell? ⟨w4.heap.size, 0, none⟩ = some (.slice a1 n1 c1)) := ⟨(Blk.new w4 (.cells #[.slice a1 n1 c1] 32)).cell 0⟩
      have M3 : Kp (Row (w4.alloc (.cells #[.slice a1 n1 c1] 32)) (A + 2) 25 .u8 (fill 16 [])) := ⟨Row.alloc (C3.out.keep hb) _⟩
      have M4 : Kp (Below A w (w4.alloc (.cells #[.slice a1 n1 c1] 32))) := ⟨(C4.out.trans (hb.mono (by have := C3.out.lt; omega))).alloc (by have := (C3.out.keep hb).lt; omega) _⟩
      have MB : Kp (A + 4 ≤ (w4.alloc (.cells #[.slice a1 n1 c1] 32)).heap.size) := ⟨by have := CB.out; have := hb.size; simp; omega⟩
      have MN : Kp (∀ x, a1 = some x → u7.ownBlock ≠ some x.block ∧ A + 4 ≤ x.block) := ⟨fun x hx => by
        have h := CF.out x.block (by rw [hx]; rfl)
        exact ⟨h.2, h.1⟩⟩
      clear hb C0 CH C3 C4 CF CB
      go_wp2_with (at_builtin; refine wpList_append_texto rfl _ _ rfl (A + 4) u7 ts rfl M0.out w4.heap.size a1 n1 c1 (80 :: tl) rfl MC.out MH.out MN.out (by simp) (by have := HTL.out; omega) MB.out ?_)
      intro v5 w5 k1 k2 k3
      have HCq := Kp.mk (cellsT25 HQl.out)
      have HZq := Kp.mk (size50 HQl.out)
      have N3 := Kp.mk (M3.out.upto k3 (by omega))
      have N4 : Kp (Below A w w5) := ⟨M4.out.trans (k3.mono (by omega))⟩
      have Y0 : Kp (TextsO (w5.setRow (A + 2) (kv .u8 q0).toArray) (A + 4) v5 (ts ++ [80 :: tl])) := ⟨k1.set (by omega) _⟩
      have Y3 : Kp (Row (w5.setRow (A + 2) (kv .u8 q0).toArray) (A + 2) 25 .u8 q0) := ⟨N3.out.setRow q0⟩
      have Y4 : Kp (Below A w (w5.setRow (A + 2) (kv .u8 q0).toArray)) := ⟨Below.row N4.out (by omega) _⟩
      clear k1 k2 k3 M0 MH MC M3 M4 MB MN
      go_wp2_with (refine wpList_store_row rfl 25 (.tmp 4) (.tmp 36) rfl (A + 2) (kv .u8 q0).toArray rfl rfl 25 _ N3.out HCq.out HZq.out (kv_all _ _) ?_)
      refine bodyPost_ret (v := .tuple #[dgV q0, v5]) ?_ rfl ⟨v5, by rw [HYS.out, HWT.out, ← HQ.out], by rw [HTS.out, HYS.out, HWT.out, ← HA.out]; exact Y0.out.base (by omega : A ≤ A + 4), by rw [← HA.out]; exact Y4.out⟩
      exact results_row_tmp rfl _ _ (A + 2) 25 _ (0, 0) _ _ rfl rfl Y3.out Tryd.underlying25 rfl HCq.out
set_option maxRecDepth 100000 in
set_option maxHeartbeats 8000000 in
theorem rsign_any (s : List Int) (d x : Int) (m : List Int) (w : World) (hx : 0 ≤ x ∧ x < 4294967296) (hs : s.length = 32) (hsb : Bytes s) (hm : m.length = 16) (hmb : Bytes m) :
    Calls Tryd.prog 17 #[.agg (kv .u8 s).toArray, nameV d x, dgV m] w fun q w' => q = .returned (.agg (kv .u8 (signS s d x m)).toArray) ∧ Below w.heap.size w w' := by
  have HX := Kp.mk hx
  have HS := Kp.mk (And.intro hs hsb)
  have HM := Kp.mk (And.intro hm hmb)
  have hC := fun (w : World) => box_row (t := 35) (cs := kv .u8 s) (cellsS35 hs) w
  have hC2 := fun (w : World) => box_row (t := 25) (cs := kv .u8 m) (cellsT25 hm) w
  have HCm := Kp.mk (cellsT25 hm)
  obtain ⟨G, hG⟩ : ∃ G : Nat → List Int, G = fun c => ownS s d x c (dgt m c) := ⟨_, rfl⟩
  have HG := Kp.mk hG
  have HGl : Kp (∀ c, (G c).length = 16) := ⟨by rw [hG]; exact fun c => ownS_len _ _ _ _ _⟩
  clear hx hs hsb hm hmb hG
  obtain ⟨A, hA⟩ : ∃ A, A = w.heap.size := ⟨_, rfl⟩
  have HA := Kp.mk hA
  clear hA
  go_enter Tryd.func17, Tryd.ntmps17
  go_wp2_with (first
    | (refine wpList_box_eq rfl 35 (.tmp 0) rfl _ rfl _ _ (hC _) ?_)
    | (refine wpList_box_eq rfl 25 (.tmp 2) rfl _ rfl _ _ (hC2 _) ?_)
    | (refine wpList_alloc_row (o := ⟨some 6, _, _, _, _, _⟩) rfl 43 rfl _ _ infoz43 ?_; rw [show (((w.alloc (.cells (kv .u8 s).toArray 35)).alloc (.cells #[.int .i64 d, .int .u32 x] 24)).alloc (.cells (kv .u8 m).toArray 25)).heap.size = A + 3 by simp [HA.out], show ((w.alloc (.cells (kv .u8 s).toArray 35)).alloc (.cells #[.int .i64 d, .int .u32 x] 24)).heap.size = A + 2 by simp [HA.out], ← HA.out]; refine wpl_world (fun W => Row W A 35 .u8 s ∧ Blk W (A + 1) (.cells #[.int .i64 d, .int .u32 x] 24) ∧ Row W (A + 2) 25 .u8 m ∧ Row W (A + 3) 43 .u8 (List.replicate 1088 0) ∧ Below A w W) ⟨Blk.old (Blk.old (Blk.old (Blk.newAt _ HA.out) _) _) _, Blk.old (Blk.old (Blk.newAt _ (by simp [HA.out])) _) _, Blk.old (Blk.newAt _ (by simp [HA.out])) _, Blk.newAt _ (by simp [HA.out]), by rw [HA.out]; exact more (more (more (more (Below.refl _ _) _) _) _) _⟩ ?_; rintro W1 ⟨h1, h2, h3, h4, h5⟩; have J1 := Kp.mk h1; have J2 := Kp.mk h2; have J3 := Kp.mk h3; have J4 := Kp.mk h4; have J5 := Kp.mk h5; clear h1 h2 h3 h4 h5)
    | (refine wpList_load_row rfl 25 (.tmp 5) rfl (A + 2) rfl 25 (kv .u8 m).toArray (0, 0) _ J3.out Tryd.underlying25 rfl HCm.out ?_))
  refine calls_world (fun W => Row W A 35 .u8 s ∧ Blk W (A + 1) (.cells #[.int .i64 d, .int .u32 x] 24) ∧ Row W (A + 3) 43 .u8 (List.replicate 1088 0) ∧ Below A w W) ⟨J1.out, J2.out, J4.out, J5.out⟩ ?_
  clear hC hC2 J1 J2 J3 J4 J5
  rintro W ⟨h1, h2, h3, h4⟩
  refine (rdigits_any m W HM.out.1 HM.out.2).mono ?_
  rintro r w1 ⟨rfl, hb⟩
  obtain ⟨B, hB⟩ : ∃ B, B = w1.heap.size := ⟨_, rfl⟩
  have HBe := Kp.mk hB
  have G1 := Kp.mk (h1.keep hb)
  have G2 := Kp.mk (Blk.keep h2 hb)
  have G3 := Kp.mk (h3.keep hb)
  have G4 : Kp (Below A w w1) := ⟨h4.trans (hb.mono (Nat.le_of_lt h1.lt))⟩
  have hAB : A + 3 < B := by rw [hB]; exact G3.out.lt
  have HDG : Kp (∀ c, c < 68 → (digS m).getD c 0 = digA m c) := ⟨fun c hc => digS_at m hc⟩
  have HDl : Kp ((digS m).length = 68) := ⟨digS_len m⟩
  generalize digS m = dl at *
  have HC51 : Kp ((Tryd.prog.info? 51).map (·.size) = some (kv .u8 dl).toArray.size) := ⟨by rw [show (kv .u8 dl).toArray.size = 68 by simp [HDl.out]]; exact size33⟩
  have HZ51 : Kp ((kv .u8 (List.replicate 68 0)).toArray.size = (kv .u8 dl).toArray.size) := ⟨by rw [kv_size, kv_size, HDl.out]; simp⟩
  clear h1 h2 h3 h4 hb hB
  go_wp2_with (first
    | (refine wpList_alloc_row rfl 51 rfl _ _ info33 ?_; rw [← HBe.out]; refine wpl_world (fun w2 => Row w2 B 51 .u8 (List.replicate 68 0) ∧ Row w2 A 35 .u8 s ∧ Blk w2 (A + 1) (.cells #[.int .i64 d, .int .u32 x] 24) ∧ Row w2 (A + 3) 43 .u8 (List.replicate 1088 0) ∧ Below A w w2 ∧ w2.heap.size = B + 1) ⟨Blk.newAt _ HBe.out, G1.out.alloc _, G2.out.old _, G3.out.alloc _, G4.out.alloc (by have := HBe.out; omega) _, by simp [HBe.out]⟩ ?_; rintro W2 ⟨h0, h1, h2, h3, h4, h5⟩; have K0 := Kp.mk h0; have K1 := Kp.mk h1; have K2 := Kp.mk h2; have K3 := Kp.mk h3; have K4 := Kp.mk h4; have K5 := Kp.mk h5; clear h0 h1 h2 h3 h4 h5)
    | (refine wpList_store_row rfl 51 (.tmp 7) (.tmp 13) rfl B (kv .u8 dl).toArray rfl rfl 51 _ K0.out HC51.out HZ51.out (kv_all _ _) ?_; refine wpl_world (fun w2 => Row w2 B 51 .u8 dl ∧ Row w2 A 35 .u8 s ∧ Blk w2 (A + 1) (.cells #[.int .i64 d, .int .u32 x] 24) ∧ Row w2 (A + 3) 43 .u8 (List.replicate 1088 0) ∧ Below A w w2 ∧ w2.heap.size = B + 1) ⟨K0.out.setRow dl, Row.otherRow K1.out (by omega) _, (setRow_other W2 B (A + 1) _ (by omega)).trans K2.out, Row.otherRow K3.out (by omega) _, Below.row K4.out (by omega) _, by simp [World.setRow, K5.out]⟩ ?_; rintro W3 ⟨h0, h1, h2, h3, h4, h5⟩; have L0 := Kp.mk h0; have L1 := Kp.mk h1; have L2 := Kp.mk h2; have L3 := Kp.mk h3; have L4 := Kp.mk h4; have L5 := Kp.mk h5; clear h0 h1 h2 h3 h4 h5 K0 K1 K2 K3 K4 K5)
    | (refine wpList_alloc_row rfl 43 rfl _ _ infoz43 ?_; rw [L5.out]; refine wpl_world (fun w2 => Row w2 B 51 .u8 dl ∧ Row w2 A 35 .u8 s ∧ Blk w2 (A + 1) (.cells #[.int .i64 d, .int .u32 x] 24) ∧ Row w2 (A + 3) 43 .u8 (List.replicate 1088 0) ∧ Row w2 (B + 1) 43 .u8 (List.replicate 1088 0) ∧ Below A w w2) ⟨L0.out.alloc _, L1.out.alloc _, L2.out.old _, L3.out.alloc _, Blk.newAt _ L5.out.symm, L4.out.alloc (by have := L5.out; omega) _⟩ ?_; rintro W4 ⟨h0, h1, h2, h3, h5, h4⟩; have I6 := Kp.mk h0; have I1 := Kp.mk h1; have I2 := Kp.mk h2; have I3 := Kp.mk h3; have I5 := Kp.mk h5; have I4 := Kp.mk h4; clear h0 h1 h2 h3 h4 h5 L0 L1 L2 L3 L4 L5))
  clear G1 G2 G3 G4
  go_loopw [9] (fun c wr => ∃ k : Nat, k ≤ 68 ∧ c = .int .i64 k ∧ Kp (Row wr A 35 .u8 s) ∧ Kp (Blk wr (A + 1) (.cells #[.int .i64 d, .int .u32 x] 24)) ∧ Kp (Row wr (A + 3) 43 .u8 (List.replicate 1088 0)) ∧ Kp (Row wr (B + 1) 43 .u8 (padS G k)) ∧ Kp (Row wr B 51 .u8 dl) ∧ Kp (Below A w wr)) (fun c _ => 68 - (intOf c).toNat)
  case atStart => exact ⟨0, by omega, rfl, I1, I2, I3, ⟨by rw [padS_none]; exact I5.out⟩, I6, I4⟩
  case round =>
    obtain ⟨k, hk, rfl, F1, F2, F3, F5, F6, F4⟩ := hrel
    clear I1 I2 I3 I4 I5 I6
    by_cases hlt : k < 68
    · have hlt' : (k : Int) < 68 := by omega
      have HYl := Kp.mk (padS_len HGl.out hk)
      have HYn := Kp.mk (padS_step HGl.out hlt)
      generalize padS G k = y at *
      obtain ⟨u, hu⟩ : ∃ u, u = G k := ⟨_, rfl⟩
      rw [← hu] at HYn
      have HUl : Kp (u.length = 16) := ⟨by rw [hu]; exact HGl.out k⟩
      obtain ⟨z, hz⟩ : ∃ z, z = ownS s d x k 0 := ⟨_, rfl⟩
      have HZ := Kp.mk hz
      have HZl : Kp (z.length = 16) := ⟨by rw [hz]; exact ownS_len _ _ _ _ _⟩
      have HZb : Kp (Bytes z) := ⟨by rw [hz]; exact ownS_bytes _ _ _ _ _⟩
      have HC := Kp.mk (cellsT25 HUl.out)
      have HZ16 := Kp.mk (size50 HUl.out)
      have hdk0 := HDG.out k hlt
      obtain ⟨hg1, hg2⟩ := dgt_is m k
      have HU : Kp (u = runS d x k 0 z (dgt m k)) := ⟨by rw [hu, hz, HG.out]; rfl⟩
      rw [← hg1] at hdk0
      generalize dgt m k = g at *
      have hdk := Kp.mk hdk0
      clear hu hz hg1 hdk0
      go_wp2_with fail
      refine wp_region_predQ (fun w' => Row w' A 35 .u8 s ∧ Blk w' (A + 1) (.cells #[.int .i64 d, .int .u32 x] 24) ∧ Row w' (A + 3) 43 .u8 (List.replicate 1088 0) ∧ Row w' (B + 1) 43 .u8 y ∧ Row w' B 51 .u8 dl ∧ Below A w w') [0, 1, 2, 3, 4, 5, 6, 7, 8, 9, 10, 11, 12, 13, 14] [13] [15, 16]
        (fun ι w' v => match ι with
          | 0 | 7 => v = nameV d x
          | 1 | 2 | 8 => v = .int .i64 k
          | 3 => v = .pointer (some ⟨B, k, none⟩)
          | 4 => v = .int .u8 g
          | 5 => v = .int .i64 g
          | 6 => v = .agg (kv .u8 s).toArray
          | 9 => v = dgV z
          | 12 => v = dgV u
          | 10 => ∃ t, v = .tuple #[dgV u, t]
          | 11 => ∃ t, v = .tuple #[dgV u, t]
          | 13 => True
          | 14 => ∃ gq, v = .pointer (some ⟨gq, 0, none⟩) ∧ B + 1 < gq ∧ Row w' gq 25 .u8 (fill 16 [])
          | _ => v = .bool true)
        [[], [], [], [(2, some 21)], [(3, some 22)], [(4, some 23)], [], [], [], [(6, some 25), (7, some 26), (8, some 27)], [(0, some 19), (1, some 20), (5, some 24), (9, some 28)], [(10, some 29)], [(11, some 18)], [(11, some 18)], []]
        [[(11, some 18)]]
        [(0, some 19), (1, some 20), (2, some 21), (3, some 22), (4, some 23), (5, some 24), (6, some 25), (7, some 26), (8, some 27), (9, some 28), (10, some 29), (11, some 18), (12, some 30), (13, some 31), (14, some 10)]
        (by kernel_rfl) (by kernel_rfl) (by kernel_rfl) (by kernel_rfl) (by kernel_rfl) (by kernel_rfl) (by kernel_rfl) (by decide) (by decide) (fun w1 w2 h hb => ⟨h.1.keep hb, h.2.1.keep hb, h.2.2.1.keep hb, h.2.2.2.1.keep hb, h.2.2.2.2.1.keep hb, h.2.2.2.2.2.trans (hb.mono (Nat.le_of_lt h.1.lt))⟩) (fun c a w d v h => by cases d <;> exact h) ?_ ⟨F1.out.drew, F2.out.draw, F3.out.drew, F5.out.drew, F6.out.drew, F4.out.drew⟩ ?_ ?_ ?_
      · intro ι w1 w2 v h hb
        by_cases h10 : ι = 10
        · subst h10
          exact h
        by_cases h11 : ι = 11
        · subst h11
          exact h
        by_cases h13 : ι = 13
        · subst h13
          exact trivial
        by_cases h14 : ι = 14
        · subst h14
          exact (show ∃ gq, v = .pointer (some ⟨gq, 0, none⟩) ∧ (B + 1) < gq ∧ Row w2 gq 25 .u8 (fill 16 []) from (by obtain ⟨gq, e, h1, hg⟩ := h; exact ⟨gq, e, h1, hg.keep hb⟩))
        match ι, h10, h11, h13, h14, h with
        | 0, _, _, _, _, h => exact h
        | 1, _, _, _, _, h => exact h
        | 2, _, _, _, _, h => exact h
        | 3, _, _, _, _, h => exact h
        | 4, _, _, _, _, h => exact h
        | 5, _, _, _, _, h => exact h
        | 6, _, _, _, _, h => exact h
        | 7, _, _, _, _, h => exact h
        | 8, _, _, _, _, h => exact h
        | 9, _, _, _, _, h => exact h
        | 10, g, _, _, _, h => exact absurd rfl g
        | 11, _, g, _, _, h => exact absurd rfl g
        | 12, _, _, _, _, h => exact h
        | 13, _, _, g, _, h => exact absurd rfl g
        | 14, _, _, _, g, h => exact absurd rfl g
        | _ + 15, _, _, _, _, h => exact h
      · refine ⟨fun γ wx hS h => ?_, fun γ wx hS h => ?_, fun γ wx hS h => ?_, fun γ wx hS h => ?_, fun γ wx hS h => ?_, fun γ wx hS h => ?_, fun γ wx hS h => ?_, fun γ wx hS h => ?_, fun γ wx hS h => ?_, fun γ wx hS h => ?_, fun γ wx hS h => ?_, fun γ wx hS h => ?_, fun γ wx hS h => ?_, fun γ wx hS h => ?_, fun γ wx hS h => ?_, trivial⟩
        · refine ⟨_, rfl, Or.inl ⟨rfl, predRun_value (exec_load_blk 24 (.tmp 4) rfl (A + 1) rfl 24 _ (0, 0) _ hS.2.1 Tryd.underlying24 rfl (cellsN24 d x)) rfl⟩⟩
        · refine ⟨_, rfl, Or.inl ⟨rfl, predRun_value (v := .int .i64 k) (by simp only [putE]; first | rfl | (go_simp; done) | (go_simp; with_reducible rfl) | (go_simp; rfl)) rfl⟩⟩
        · refine ⟨_, rfl, Or.inl ⟨rfl, predRun_value (v := .int .i64 k) (by simp only [putE]; first | rfl | (go_simp; done) | (go_simp; with_reducible rfl) | (go_simp; rfl)) rfl⟩⟩
        · have h2 := h
          have e2 : γ 2 = .int .i64 k := h2
          refine ⟨_, rfl, ?_⟩
          refine predOp_val (v := .pointer (some ⟨B, k, none⟩)) ?_ ?_ ?_
          · kernel_rfl
          · simp only [putE, e2]
            go_simp
          · rfl
        · have h3 := h
          have e3 : γ 3 = .pointer (some ⟨B, k, none⟩) := h3
          have hcell := hS.2.2.2.2.1.cell (i := k) (by rw [HDl.out]; exact hlt)
          rw [hdk.out] at hcell
          refine ⟨_, rfl, ?_⟩
          refine predOp_val (v := .int .u8 g) ?_ ?_ ?_
          · kernel_rfl
          · simp only [putE, e3]
            go_simp
          · rfl
        · have h4 := h
          have e4 : γ 4 = .int .u8 g := h4
          refine ⟨_, rfl, Or.inl ⟨rfl, predRun_value (v := .int .i64 g) (by simp only [putE, e4]; go_simp; exact IntWalk.i64_in _ (by omega)) rfl⟩⟩
        · refine ⟨_, rfl, Or.inl ⟨rfl, predRun_value (exec_load_blk 35 (.tmp 3) rfl (A) rfl 35 _ (0, 0) _ hS.1 Tryd.underlying35 rfl (cellsS35 HS.out.1)) rfl⟩⟩
        · refine ⟨_, rfl, Or.inl ⟨rfl, predRun_value (exec_load_blk 24 (.tmp 4) rfl (A + 1) rfl 24 _ (0, 0) _ hS.2.1 Tryd.underlying24 rfl (cellsN24 d x)) rfl⟩⟩
        · refine ⟨_, rfl, Or.inl ⟨rfl, predRun_value (v := .int .i64 k) (by simp only [putE]; first | rfl | (go_simp; done) | (go_simp; with_reducible rfl) | (go_simp; rfl)) rfl⟩⟩
        · obtain ⟨h6, h7, h8⟩ := h
          have e6 : γ 6 = .agg (kv .u8 s).toArray := h6
          have e7 : γ 7 = nameV d x := h7
          have e8 : γ 8 = .int .i64 k := h8
          refine ⟨_, rfl, Or.inl ⟨rfl, predRun_call (f := 50) (args := #[.agg (kv .u8 s).toArray, nameV d x, .int .i64 k]) (by simp only [putE, e6, e7, e8]; go_simp) ?_⟩⟩
          exact (ostart_any s d x k wx HX.out HS.out.1 HS.out.2 hlt).mono fun e w2 ⟨h1, h2⟩ => ⟨_, h1, (show dgV (ownS s d x k 0) = dgV z by rw [HZ.out]), h2⟩
        · obtain ⟨h0, h1, h5, h9⟩ := h
          have e0 : γ 0 = nameV d x := h0
          have e1 : γ 1 = .int .i64 k := h1
          have e5 : γ 5 = .int .i64 g := h5
          have e9 : γ 9 = dgV z := h9
          refine ⟨_, rfl, Or.inl ⟨rfl, predRun_call (f := 22) (args := #[nameV d x, .int .i64 k, .int .i64 0, .int .i64 g, dgV z]) (by simp only [putE, e0, e1, e5, e9]; go_simp) ?_⟩⟩
          exact (rrun_any d x k 0 g z wx HX.out (by omega) (by omega) HZl.out HZb.out).mono fun e w2 ⟨v, h1, h2, h3⟩ => ⟨_, h1, ⟨v, (show Value.tuple #[dgV (runS d x k ((0 : Nat) : Int) z (g - 0)), v] = _ by rw [HU.out]; rfl)⟩, h3⟩
        · have h10 := h
          have p10 : ∃ t, (γ 10) = .tuple #[dgV u, t] := h10
          obtain ⟨t, e10⟩ := p10
          refine ⟨_, rfl, Or.inl ⟨rfl, predRun_value (v := .tuple #[dgV u, t]) (by simp only [putE, e10]; first | rfl | (go_simp; done) | (go_simp; rfl)) ⟨t, rfl⟩⟩⟩
        · have h11 := h
          have p11 : ∃ t, (γ 11) = .tuple #[dgV u, t] := h11
          obtain ⟨t, e11⟩ := p11
          refine ⟨_, rfl, Or.inl ⟨rfl, predRun_value (v := dgV u) (by simp only [putE, e11]; first | rfl | (go_simp; done) | (go_simp; rfl)) rfl⟩⟩
        · have h11 := h
          have p11 : ∃ t, (γ 11) = .tuple #[dgV u, t] := h11
          obtain ⟨t, e11⟩ := p11
          refine ⟨_, rfl, Or.inl ⟨rfl, predRun_value (v := t) (by simp only [putE, e11]; first | rfl | (go_simp; done) | (go_simp; rfl)) trivial⟩⟩
        · refine ⟨_, rfl, Or.inl ⟨rfl, predRun_new (w' := wx.alloc z16r) (v := .pointer (some ⟨wx.heap.size, 0, none⟩)) (by simp only [putE]; first | rfl | (go_simp; done) | (go_simp; rfl)) (more (Below.refl _ _) _) ⟨_, rfl, hS.2.2.2.1.lt, Blk.new _ _⟩⟩⟩
      · refine ⟨fun γ wx hS h => ?_, trivial⟩
        · have h11 := h
          have p11 : ∃ t, (γ 11) = .tuple #[dgV u, t] := h11
          obtain ⟨t, e11⟩ := p11
          refine ⟨_, t, rfl, Or.inl ⟨rfl, fun wz => by simp only [putE, e11]; first | rfl | (go_simp; done) | (go_simp; rfl)⟩, trivial⟩
      · intro γ w9 hS h
        have e12 : γ 12 = dgV u := h.2.2.2.2.2.2.2.2.2.2.2.2.1
        obtain ⟨gq, e14, hAg, hg⟩ : ∃ gq, γ 14 = .pointer (some ⟨gq, 0, none⟩) ∧ B + 1 < gq ∧ Row w9 gq 25 .u8 (fill 16 []) := h.2.2.2.2.2.2.2.2.2.2.2.2.2.2
        simp only [putE, Act.put, List.setIfInBounds_toArray, List.set_cons_zero, List.set_cons_succ]
        rw [e12, e14]
        have HGA : Kp (Row w9 gq 25 .u8 (fill 16 [])) := ⟨hg⟩
        obtain ⟨W9, hW9⟩ : ∃ W9, W9 = w9.setRow gq (kv .u8 u).toArray := ⟨_, rfl⟩
        have EG : Kp (Row W9 gq 25 .u8 u) := ⟨by rw [hW9]; exact HGA.out.setRow u⟩
        have E1 : Kp (Row W9 A 35 .u8 s) := ⟨by rw [hW9]; exact Row.otherRow hS.1 (by omega) _⟩
        have E2 : Kp (Blk W9 (A + 1) (.cells #[.int .i64 d, .int .u32 x] 24)) := ⟨by rw [hW9]; exact (setRow_other w9 gq (A + 1) _ (by omega)).trans hS.2.1⟩
        have E3 : Kp (Row W9 (A + 3) 43 .u8 (List.replicate 1088 0)) := ⟨by rw [hW9]; exact Row.otherRow hS.2.2.1 (by omega) _⟩
        have E5 : Kp (Row W9 (B + 1) 43 .u8 y) := ⟨by rw [hW9]; exact Row.otherRow hS.2.2.2.1 (by omega) _⟩
        have E6 : Kp (Row W9 B 51 .u8 dl) := ⟨by rw [hW9]; exact Row.otherRow hS.2.2.2.2.1 (by omega) _⟩
        have E4 : Kp (Below A w W9) := ⟨by rw [hW9]; exact Below.row hS.2.2.2.2.2 (by omega) _⟩
        have HWk := Kp.mk hW9
        clear h hS e12 e14 hg F1 F2 F3 F4 F5 F6 hW9
        generalize γ 13 = v13 at *
        refine wpOps_step rfl rfl ?_
        refine wp_store_row 25 (.tmp 10) (.tmp 30) rfl gq (kv .u8 u).toArray rfl rfl 25 _ HGA.out HC.out HZ16.out (kv_all _ _) ?_
        rw [← HWk.out]
        clear HWk HGA
        refine wpOps_step rfl rfl ?_
        refine wp_assign_end rfl rfl ?_
        refine wpOps_done ?_
        have HTHR := Kp.mk (E5.out.there (o := k * 16) (n := 16) (by rw [HYl.out]; omega))
        obtain ⟨V, hV⟩ : ∃ V, V = W9.setCells (B + 1) (k * 16) (kv .u8 u) := ⟨_, rfl⟩
        have D1 : Kp (Row V A 35 .u8 s) := ⟨by rw [hV]; exact Row.otherCells (by omega) _ _ _ E1.out⟩
        have D2 : Kp (Blk V (A + 1) (.cells #[.int .i64 d, .int .u32 x] 24)) := ⟨by rw [hV]; exact Blk.otherCells (by omega) _ _ _ E2.out⟩
        have D3 : Kp (Row V (A + 3) 43 .u8 (List.replicate 1088 0)) := ⟨by rw [hV]; exact Row.otherCells (by omega) _ _ _ E3.out⟩
        have D5 : Kp (Row V (B + 1) 43 .u8 (padS G (k + 1))) := ⟨by rw [hV, ← HYn.out]; exact Row.setCells u (k * 16) W9 y (by rw [HYl.out, HUl.out]; omega) E5.out⟩
        have D6 : Kp (Row V B 51 .u8 dl) := ⟨by rw [hV]; exact Row.otherCells (by omega) _ _ _ E6.out⟩
        have D4 : Kp (Below A w V) := ⟨by rw [hV]; exact Below.cells (by omega) _ _ _ _ E4.out⟩
        have HV := Kp.mk hV.symm
        clear hV E1 E2 E3 E4 E5 E6 HYn
        go_wp2_with (first
          | (refine wpList_load_row rfl 25 (.tmp 10) rfl gq rfl 25 (kv .u8 u).toArray (0, 0) _ EG.out Tryd.underlying25 rfl HC.out ?_)
          | (refine wpList_store_mid rfl 25 (.tmp 34) (.tmp 33) rfl (B + 1) (k * 16) (kv .u8 u).toArray rfl rfl (by rw [kv_size, HUl.out]; exact HTHR.out) HC.out (kv_all _ _) ?_; refine wpl_world (· = V) HV.out ?_; clear HV; intro W0 e0; rw [e0]; clear e0))
        exact ⟨⟨k + 1, by omega, by go_num, D1, D2, D3, D5, D6, D4⟩, by simp [intOf]; omega⟩
    · obtain rfl : k = 68 := by omega
      have hge : ¬ ((68 : Nat) : Int) < 68 := by omega
      have K5 : Kp (Row wr (B + 1) 43 .u8 (signS s d x m)) := ⟨by have h := F5.out; rw [padS_all, HG.out] at h; exact h⟩
      have HT := Kp.mk (signS_len s d x m)
      clear F5
      generalize hy : signS s d x m = y at *
      have HY := Kp.mk hy
      clear hy
      have HC41 := Kp.mk (cellsT43 HT.out)
      have HZ : Kp ((kv .u8 (List.replicate 1088 0)).toArray.size = (kv .u8 y).toArray.size) := ⟨by rw [kv_size, kv_size, HT.out, List.length_replicate]⟩
      have KR := Kp.mk (F3.out.setRow y)
      have KB := Kp.mk (Below.row F4.out (g := A + 3) (by omega) (kv .u8 y).toArray)
      go_wp2_with (first
        | (refine wpList_load_row rfl 43 (.tmp 8) rfl (B + 1) rfl 43 (kv .u8 y).toArray (0, 0) _ K5.out Tryd.underlying43 rfl HC41.out ?_)
        | (refine wpList_store_row rfl 43 (.tmp 6) (.tmp 35) rfl (A + 3) (kv .u8 y).toArray rfl rfl 43 _ F3.out HC41.out HZ.out (kv_all _ _) ?_))
      refine bodyPost_ret (v := .agg (kv .u8 y).toArray) (results_cell_row rfl _ _ (A + 3) 43 _ (0, 0) _ rfl KR.out Tryd.underlying43 rfl HC41.out) rfl ⟨by rw [HY.out], by rw [← HA.out]; exact KB.out⟩
end Go.Proofs.YtpljjmdkagbjpaaDoor

namespace Go.Proofs.YtpljjmdkagbjpaaDoor
open Go.RowKit

/-- Bytes, as literals. -/
abbrev lits (l : List Int) : List Lit := l.map (Lit.int .u8)
theorem lits_inj {a b : List Int} (h : lits a = lits b) : a = b := by
  have h2 := congrArg (List.map fun x : Lit => match x with | .int _ n => n | _ => 0) h
  simpa [List.map_map, Function.comp_def] using h2
theorem mapM_some {α β : Type} (f : α → Option β) (g : α → β) : ∀ l : List α, (∀ x ∈ l, f x = some (g x)) → l.mapM f = some (l.map g)
  | [], _ => rfl
  | x :: r, h => by
    rw [List.mapM_cons, h x (by simp), mapM_some f g r fun y hy => h y (by simp [hy])]
    rfl
theorem lits_one {n : Int} (h : 0 ≤ n ∧ n ≤ 255) (D : Nat) : Tryd.prog.keyLits (D + 1) 5 [.int .u8 n] = some [.int .u8 n] := by
  have b1 : IntKind.u8.min = 0 := rfl
  have b2 : IntKind.u8.max = 255 := rfl
  unfold Program.keyLits
  rw [Tryd.underlying5]
  simp [Lit.wf, b1, b2, h.1, h.2]
theorem lits_flat (l : List Int) (n : Nat) (h : l.length = n) : ((List.range n).map fun i => ([Lit.int .u8 (l.getD i 0)] : List Lit)).flatten = lits l := by
  subst h
  apply List.ext_getElem?
  intro i
  have e : ((List.range l.length).map fun i => ([Lit.int .u8 (l.getD i 0)] : List Lit)).flatten = (List.range l.length).map fun i => Lit.int .u8 (l.getD i 0) := by
    induction (List.range l.length) with
    | nil => rfl
    | cons x r ih => rw [List.map_cons, List.flatten_cons, ih]; rfl
  rw [e, List.getElem?_map, List.getElem?_map]
  by_cases hi : i < l.length
  · rw [List.getElem?_range hi, List.getElem?_eq_getElem hi, Option.map_some, Option.map_some, List.getD_eq_getElem?_getD, List.getElem?_eq_getElem hi]
    rfl
  · rw [List.getElem?_eq_none (by simp; omega), List.getElem?_eq_none (by omega)]
    rfl
theorem lits_sum {t : TypeId} (ht : Tryd.prog.underlying t = some (.array 16 5)) (hC : Tryd.prog.cellsOf t = 16) {z : List Int} (hz : z.length = 16) (hb : Bytes z) (D : Nat) : Tryd.prog.keyLits (D + 2) t (kv .u8 z) = some (lits z) := by
  have c5 : Tryd.prog.cellsOf 5 = 1 := by kernel_rfl
  unfold Program.keyLits
  rw [ht]
  simp only [List.length_map, hz, hC, if_true, c5, Nat.mul_one]
  rw [mapM_some _ (fun i => [Lit.int .u8 (z.getD i 0)])]
  · rw [Option.map_some, lits_flat z 16 hz]
  · intro i hi
    have hi' := List.mem_range.1 hi
    have e : ((kv .u8 z).drop i).take 1 = [.int .u8 (z.getD i 0)] := by
      rw [List.take_one, List.head?_drop, List.getElem?_map, List.getElem?_eq_getElem (by omega), List.getD_eq_getElem?_getD, List.getElem?_eq_getElem (by omega)]
      rfl
    rw [e]
    exact lits_one (hb.at (by omega)) D
set_option maxRecDepth 100000 in
theorem lits_sums {t et : TypeId} (ht : Tryd.prog.underlying t = some (.array 68 et)) (he : Tryd.prog.underlying et = some (.array 16 5)) (hC : Tryd.prog.cellsOf t = 68 * 16) (hE : Tryd.prog.cellsOf et = 16) {S : List Int} (hS : S.length = 1088) (hb : Bytes S) (D : Nat) : Tryd.prog.keyLits (D + 3) t (kv .u8 S) = some (lits S) := by
  unfold Program.keyLits
  rw [ht]
  simp only [List.length_map, hS, hC, if_true, hE]
  rw [mapM_some _ (fun c => lits (linkAt S c))]
  · rw [Option.map_some]
    congr 1
    have e : S = catS (linkAt S) 68 := by
      refine links_ext hS ?_ fun c hc => ?_
      · have h : ∀ k, k ≤ 68 → (catS (linkAt S) k).length = k * 16 := by
          intro k
          induction k with
          | zero => intro _; rfl
          | succ k ih => intro hk; rw [catS_succ, List.length_append, ih (by omega), linkAt_len hS (by omega)]; omega
        exact h 68 (by omega)
      · have h : ∀ k, k ≤ 68 → catS (linkAt S) k = S.take (k * 16) := by
          intro k
          induction k with
          | zero => intro _; simp [catS]
          | succ k ih =>
            intro hk
            rw [catS_succ, ih (by omega), show (k + 1) * 16 = k * 16 + 16 by omega, List.take_add]
            rfl
        rw [h 68 (by omega), List.take_of_length_le (by omega)]
    have e2 : lits S = ((List.range 68).map fun c => lits (linkAt S c)).flatten := by
      conv => lhs; rw [e]
      unfold catS lits
      rw [List.map_flatten, List.map_map]
      rfl
    exact e2.symm
  · intro c hc
    have hc' := List.mem_range.1 hc
    have e : ((kv .u8 S).drop (c * 16)).take 16 = kv .u8 (linkAt S c) := by
      show _ = ((S.drop (c * 16)).take 16).map (Value.int .u8)
      rw [List.map_take, List.map_drop]
    rw [e]
    exact lits_sum he hE (linkAt_len hS hc') (linkAt_bytes hb c) D
theorem key43 : Tryd.prog.keyTypeAt 9 43 = true := by kernel_rfl
theorem formed43 {S : List Int} (h : S.length = 1088) : (Value.agg (kv .u8 S).toArray).formed Tryd.prog 43 = true := by
  unfold Value.formed
  rw [Tryd.underlying43]
  show ((kv .u8 S).toArray.size == Tryd.prog.cellsOf 43) = true
  rw [kv_size, h]
  kernel_rfl
theorem eql43 {S T : List Int} (hS : S.length = 1088) (hSb : Bytes S) (hT : T.length = 1088) (hTb : Bytes T) (w : World) : (binOp .eql 43 (.agg (kv .u8 S).toArray) (.agg (kv .u8 T).toArray)).run Tryd.prog w = .ok (.bool (decide (S = T))) w := by
  obtain ⟨r, hr, hiff⟩ := run_equalIn_deep (P := Tryd.prog) 9991 9 43 key43 w 3 3 (.agg (kv .u8 S).toArray) (.agg (kv .u8 T).toArray) (lits S) (lits T) (formed43 hS) (formed43 hT)
    (by show Tryd.prog.keyLits (0 + 3) 43 (kv .u8 S).toArray.toList = _; exact lits_sums Tryd.underlying43 Tryd.underlying25 (by kernel_rfl) (by kernel_rfl) hS hSb 0) (by show Tryd.prog.keyLits (0 + 3) 43 (kv .u8 T).toArray.toList = _; exact lits_sums Tryd.underlying43 Tryd.underlying25 (by kernel_rfl) (by kernel_rfl) hT hTb 0)
  have e : r = decide (S = T) := by
    rw [Bool.eq_iff_iff, decide_eq_true_iff, hiff]
    exact ⟨lits_inj, fun h => by rw [h]⟩
  rw [run_eql_struct, show (10000 : Nat) = 9991 + 9 from rfl] at *
  rw [hr, e]
  rfl
theorem eqg43 (p q : List Int) (x y : Operand) (w : World) : (eqGuard .eql 43 x y (.agg (kv .u8 p).toArray) (.agg (kv .u8 q).toArray)).run Tryd.prog w = .ok () w := by kernel_rfl
end Go.Proofs.YtpljjmdkagbjpaaDoor

namespace Go.Proofs.YtpljjmdkagbjpaaDoor
open Go.RowKit

theorem zeros16 : digA (List.replicate 16 0) 0 = 0 ∧ digA (List.replicate 16 0) 64 = 3 ∧ digA (List.replicate 16 0) 65 = 0 := by decide +kernel
set_option maxRecDepth 100000 in
set_option maxHeartbeats 4000000 in
theorem awake_any (w : World) : Calls Tryd.prog 8 #[] w fun r w' => r = .returned (.bool true) ∧ Below w.heap.size w w' := by
  go_enter Tryd.func8, Tryd.ntmps8
  go_wp2_with fail
  refine (digits_any (List.replicate 16 0) w (by simp) (by intro x hx; have := (List.mem_replicate.1 hx).2; omega)).mono ?_
  rintro r w1 ⟨rfl, hb⟩
  have HB := Kp.mk hb
  have h0 := digS_at (List.replicate 16 0) (c := 0) (by omega)
  have h1 := digS_at (List.replicate 16 0) (c := 64) (by omega)
  have h2 := digS_at (List.replicate 16 0) (c := 65) (by omega)
  rw [zeros16.1] at h0
  rw [zeros16.2.1] at h1
  rw [zeros16.2.2] at h2
  have hl := digS_len (List.replicate 16 0)
  generalize digS (List.replicate 16 0) = dl at *
  have HL := Kp.mk hl
  have H0 := Kp.mk (And.intro h0 (And.intro h1 h2))
  clear hb h0 h1 h2 hl
  have HC33 : Kp ((Tryd.prog.info? 51).map (·.size) = some (kv .u8 dl).toArray.size) := ⟨by rw [show (kv .u8 dl).toArray.size = 68 by simp [HL.out]]; exact size33⟩
  have HZ : Kp ((kv .u8 (List.replicate 68 0)).toArray.size = (kv .u8 dl).toArray.size) := ⟨by rw [kv_size, kv_size, HL.out]; simp⟩
  obtain ⟨B, hB⟩ : ∃ B, B = w1.heap.size := ⟨_, rfl⟩
  have HBe := Kp.mk hB
  go_wp2_with (first
    | (refine wpList_alloc_row rfl 51 rfl _ _ info33 ?_; rw [← hB]; clear hB; refine wpl_world (fun w2 => Row w2 B 51 .u8 (List.replicate 68 0) ∧ Below w.heap.size w w2) ⟨Blk.newAt _ HBe.out, HB.out.alloc HB.out.size _⟩ ?_; rintro W2 ⟨h1, h2⟩; have K1 := Kp.mk h1; have K2 := Kp.mk h2; clear h1 h2)
    | (refine wpList_store_row rfl 51 (.tmp 1) (.tmp 3) rfl B (kv .u8 dl).toArray rfl rfl 51 _ K1.out HC33.out HZ.out (kv_all _ _) ?_; refine wpl_world (fun w2 => Row w2 B 51 .u8 dl ∧ Below w.heap.size w w2) ⟨K1.out.setRow dl, Below.row K2.out (by have := HBe.out; have := HB.out.size; omega) _⟩ ?_; rintro W3 ⟨h1, h2⟩; have K3 := Kp.mk h2; have c0 := h1.cell (i := 0) (by rw [HL.out]; omega); have c1 := h1.cell (i := 64) (by rw [HL.out]; omega); have c2 := h1.cell (i := 65) (by rw [HL.out]; omega); rw [H0.out.1] at c0; rw [H0.out.2.1] at c1; rw [H0.out.2.2] at c2; clear h1 h2))
  go_ret
  exact ⟨rfl, K3.out⟩
end Go.Proofs.YtpljjmdkagbjpaaDoor
