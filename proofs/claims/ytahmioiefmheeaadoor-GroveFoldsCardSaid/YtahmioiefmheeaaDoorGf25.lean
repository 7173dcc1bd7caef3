/-
  The law GroveFolds, walked.
-/
import Derived.Test.YtahmioiefmheeaaDoorGf24
namespace Go.Proofs.YtahmioiefmheeaaDoor
open Go.RowKit

theorem wpList_buildSlice_two {P : Program} {w : World} {ops : Array Oper} {rest : List Oper} {o : Oper} {a : Act} {Q : Exit → Act → World → Prop} (hg : o.guard = none) (t : TypeId) (len : Nat) (x y : Operand) (ho : o.op = .buildSlice t len #[(0, x), (1, y)])
    (u u' : Value) (hx : a.eval x = u) (hy : a.eval y = u') (v : Value) (w' : World) (hrun : (Instr.buildSlice t len #[(0, u), (1, u')]).run P w = .ok v w') (h : wpList P ops Q rest (a.put o.dst v) w') : wpList P ops Q (o :: rest) a w := by
  subst hx hy
  refine wpList_plain hg fun _ hK => ?_
  unfold Oper.wp execOp
  simp only [ho, Sem.run_bind, List.map_toArray, List.map_cons, List.map_nil, hrun, Result.andThen_ok]
  exact hK _ _ h
set_option maxRecDepth 100000 in
theorem build65_2 {p q : List Int} (h : p.length = 16) (g : q.length = 16) (w : World) : (Instr.buildSlice 65 2 #[(0, dgV p), (1, dgV q)]).run Tryd.prog w = .ok (.slice (some ⟨w.heap.size, 0, none⟩) 2 2) (w.alloc (.cells (kv .u8 (p ++ q)).toArray 32)) := by
  obtain ⟨x0, x1, x2, x3, x4, x5, x6, x7, x8, x9, x10, x11, x12, x13, x14, x15, rfl⟩ := list16 h
  obtain ⟨y0, y1, y2, y3, y4, y5, y6, y7, y8, y9, y10, y11, y12, y13, y14, y15, rfl⟩ := list16 g
  kernel_rfl
theorem way_lt {w : World} {a : Option Addr} {n c : Nat} {l : List Int} (h : HoldsS w (.slice a n c) n l) {x : Addr} (hx : a = some x) (h0 : 0 < n) : x.block < w.heap.size := by
  obtain ⟨a', c', e, _, _, _, h4⟩ := h
  obtain ⟨b, off, ha, hlt, _⟩ := h4 h0
  simp only [Value.slice.injEq] at e
  rw [← e.1, hx] at ha
  simp only [Option.some.injEq] at ha
  rw [ha]
  exact hlt
set_option maxRecDepth 100000 in
set_option maxHeartbeats 8000000 in
theorem groveFolds_walk (x0 x1 x2 x3 x4 : Int) (x5 x6 : List Int) (a7 : Option Addr) (len7 cap7 : Nat) (z7 : List Int) (w : World) (_w0 : (Lit.int .i64 x0).wf = true) (w1 : (Lit.int .u32 x1).wf = true) (_w2 : (Lit.int .i64 x2).wf = true) (_w3 : (Lit.int .i64 x3).wf = true) (_w4 : (Lit.int .i64 x4).wf = true) (l5 : x5.length = 16) (b5 : Bytes x5) (l6 : x6.length = 16) (b6 : Bytes x6) (w7 : HoldsS w (.slice a7 len7 cap7) len7 z7 ∧ len7 ≤ cap7 ∧ cap7 ≤ maxLen) (hk : KonIs w) :
    Calls Tryd.prog 14 #[.int .i64 x0, .int .u32 x1, .int .i64 x2, .int .i64 x3, .int .i64 x4, dgV x5, dgV x6, .slice a7 len7 cap7] w fun e w' => e = .returned (.bool true) ∧ Below w.heap.size w w' := by
  have HE := Kp.mk (u32_wf w1)
  have HX5 := Kp.mk l5
  have HB5 := Kp.mk b5
  have HX6 := Kp.mk l6
  have HB6 := Kp.mk b6
  have HK := Kp.mk hk
  have HR7 := Kp.mk w7.1
  have hc1 := w7.2.1
  have hc2 := w7.2.2
  unfold maxLen at hc2
  clear _w0 w1 _w2 _w3 _w4 l5 b5 l6 b6 hk w7
  obtain ⟨A, hA⟩ : ∃ A, A = w.heap.size := ⟨_, rfl⟩
  have HA := Kp.mk hA
  by_cases hcut : 20 < len7
  · have hcut2 : (20 : Int) < (len7 : Int) := by omega
    go_enter Tryd.func14, Tryd.ntmps14
    go_wp2_with fail
    rw [← hA]
    refine wp_world (fun W => Row W A 32 .u8 x5 ∧ Row W (A + 1) 32 .u8 x6 ∧ HoldsS W (.slice a7 20 cap7) 20 (z7.take (20 * 16)) ∧ Below A w W) ⟨Blk.old (Blk.newAt _ hA) _, Blk.newAt _ (by simp [hA]), (HR7.out.keep (more (more (Below.refl _ _) _) _)).front (by omega), by rw [hA]; exact more (more (Below.refl _ _) _) _⟩ ?_
    clear hA
    rintro W1 ⟨g1, g2, g3, g4⟩
    have R1_l := Kp.mk g1
    have R1_r := Kp.mk g2
    have Y1 := Kp.mk g3
    have B1 := Kp.mk g4
    clear g1 g2 g3 g4
    have HNs : Kp (20 ≤ 1000000) := ⟨by omega⟩
    have HLb : Kp ((z7.take (20 * 16)).length = 20 * 16 ∧ Bytes (z7.take (20 * 16))) := ⟨by obtain ⟨_, _, _, k1, _, k2, _⟩ := Y1.out; exact ⟨k1, k2⟩⟩
    obtain ⟨s, hs⟩ : ∃ s, s = foldS x0 x1 x5 x2 (z7.take (20 * 16)) 20 := ⟨_, rfl⟩
    obtain ⟨f, hf⟩ : ∃ f, f = foldF x2 20 := ⟨_, rfl⟩
    have HSF : Kp (foldS x0 x1 x5 x2 (z7.take (20 * 16)) 20 = s ∧ foldF x2 20 = f) := ⟨hs.symm, hf.symm⟩
    have HL_s : Kp (s.length = 16 ∧ Bytes s) := ⟨by rw [hs]; exact ⟨foldS_len _ _ _ _ _ _ HX5.out, foldS_bytes _ _ _ _ _ _ HB5.out⟩⟩
    clear hs hf
    obtain ⟨M1, hM⟩ : ∃ M, M = W1.heap.size := ⟨_, rfl⟩
    have hb1_l : A < M1 := by rw [hM]; exact R1_l.out.lt
    have hb1_r : A + 1 < M1 := by rw [hM]; exact R1_r.out.lt
    have HM1 : Kp (M1 ≤ W1.heap.size) := ⟨Nat.le_of_eq hM⟩
    have HWB1 : Kp (∀ x, a7 = some x → 0 < 20 → x.block < M1) := ⟨fun x hx h0 => by rw [hM]; exact way_lt Y1.out hx h0⟩
    clear hM
    refine wp_region_predQ (fun w' => Row w' (A) 32 .u8 x5 ∧ Row w' (A + 1) 32 .u8 x6 ∧ HoldsS w' (.slice a7 20 cap7) 20 (z7.take (20 * 16)) ∧ M1 ≤ w'.heap.size ∧ Below A w w') [0, 1, 2, 3, 4, 5, 6, 7, 8, 9, 10] [9] [11, 12]
      (fun ι w' v => match ι with
        | 0 => v = .int .i64 x0
        | 1 => v = .int .u32 x1
        | 2 => v = .int .i64 x2
        | 3 => v = dgV x5
        | 4 => v = .slice a7 20 cap7
        | 6 | 7 => v = .tuple #[dgV s, .int .i64 f]
        | 8 => v = dgV s
        | 9 => v = .int .i64 f
        | 5 => HoldsS w' v 20 (z7.take (20 * 16))
        | 10 => ∃ g, v = .pointer (some ⟨g, 0, none⟩) ∧ M1 ≤ g ∧ Row w' g 33 .u8 (fill 16 [])
        | _ => v = .bool true)
      [[], [], [], [], [], [(4, some 34)], [(0, some 30), (1, some 31), (2, some 32), (3, some 33), (5, some 35)], [(6, some 36)], [(7, some 29)], [(7, some 29)], []]
      [[(7, some 29)]]
      [(0, some 30), (1, some 31), (2, some 32), (3, some 33), (4, some 34), (5, some 35), (6, some 36), (7, some 29), (8, some 37), (9, some 38), (10, some 17)]
      (by kernel_rfl) (by kernel_rfl) (by kernel_rfl) (by kernel_rfl) (by kernel_rfl) (by kernel_rfl) (by kernel_rfl) (by decide) (by decide) (fun w1 w2 h hb => ⟨h.1.keep hb, h.2.1.keep hb, h.2.2.1.keep hb, Nat.le_trans h.2.2.2.1 hb.size, h.2.2.2.2.trans (hb.mono (Nat.le_of_lt h.1.lt))⟩) (fun c a w d v h => by cases d <;> exact h) ?_ ⟨R1_l.out.drew, R1_r.out.drew, Y1.out.drew, HM1.out, B1.out.drew⟩ ?_ ?_ ?_
    · intro ι w1 w2 v h hb
      by_cases h5 : ι = 5
      · subst h5
        exact HoldsS.keep h hb
      by_cases h10 : ι = 10
      · subst h10
        exact (by obtain ⟨g, e, h1, hg⟩ := h; exact ⟨g, e, h1, hg.keep hb⟩)
      match ι, h5, h10, h with
      | 0, _, _, h => exact h
      | 1, _, _, h => exact h
      | 2, _, _, h => exact h
      | 3, _, _, h => exact h
      | 4, _, _, h => exact h
      | 5, g, _, h => exact absurd rfl g
      | 6, _, _, h => exact h
      | 7, _, _, h => exact h
      | 8, _, _, h => exact h
      | 9, _, _, h => exact h
      | 10, _, g, h => exact absurd rfl g
      | _ + 11, _, _, h => exact h
    · refine ⟨fun γ wx hS h => ?_, fun γ wx hS h => ?_, fun γ wx hS h => ?_, fun γ wx hS h => ?_, fun γ wx hS h => ?_, fun γ wx hS h => ?_, fun γ wx hS h => ?_, fun γ wx hS h => ?_, fun γ wx hS h => ?_, fun γ wx hS h => ?_, fun γ wx hS h => ?_, trivial⟩
      · refine ⟨_, rfl, Or.inl ⟨rfl, predRun_value (v := .int .i64 x0) (by simp only [putE]; first | rfl | (go_simp; done) | (go_simp; with_reducible rfl) | (go_simp; rfl)) rfl⟩⟩
      · refine ⟨_, rfl, Or.inl ⟨rfl, predRun_value (v := .int .u32 x1) (by simp only [putE]; first | rfl | (go_simp; done) | (go_simp; with_reducible rfl) | (go_simp; rfl)) rfl⟩⟩
      · refine ⟨_, rfl, Or.inl ⟨rfl, predRun_value (v := .int .i64 x2) (by simp only [putE]; first | rfl | (go_simp; done) | (go_simp; with_reducible rfl) | (go_simp; rfl)) rfl⟩⟩
      · refine ⟨_, rfl, Or.inl ⟨rfl, predRun_value (exec_load_blk 32 (.tmp 13) rfl (A) rfl 32 _ (0, 0) _ hS.1 Tryd.underlying32 rfl (cells49 HX5.out)) rfl⟩⟩
      · refine ⟨_, rfl, Or.inl ⟨rfl, predRun_value (v := .slice a7 20 cap7) (by simp only [putE]; first | rfl | (go_simp; done) | (go_simp; with_reducible rfl) | (go_simp; rfl)) rfl⟩⟩
      · have h4 := h
        have e4 : γ 4 = .slice a7 20 cap7 := h4
        refine ⟨_, rfl, Or.inl ⟨rfl, predRun_call (f := 47) (args := #[.slice a7 20 cap7]) (by simp only [putE, e4]; go_simp) ?_⟩⟩
        refine (toS_any _ 20 (z7.take (20 * 16)) wx hS.2.2.1 HNs.out).mono ?_
        rintro e w2 ⟨v', h1, h2, h3⟩
        exact ⟨v', h1, HoldsS.ofRow HLb.out.2 (by have := HNs.out; unfold maxLen; omega) HLb.out.1 h2, h3⟩
      · obtain ⟨h0, h1, h2, h3, h5⟩ := h
        have e0 : γ 0 = .int .i64 x0 := h0
        have e1 : γ 1 = .int .u32 x1 := h1
        have e2 : γ 2 = .int .i64 x2 := h2
        have e3 : γ 3 = dgV x5 := h3
        have p5 : HoldsS wx (γ 5) 20 (z7.take (20 * 16)) := h5
        obtain ⟨a9, c9, e9, -⟩ := id p5
        refine ⟨_, rfl, Or.inl ⟨rfl, predRun_call (f := 68) (args := #[.int .i64 x0, .int .u32 x1, .int .i64 x2, dgV x5, .slice a9 20 c9]) (by simp only [putE, e0, e1, e2, e3, e9]; go_simp) ?_⟩⟩
        rw [e9] at p5
        exact (fold_any x0 x1 x2 x5 a9 20 c9 (z7.take (20 * 16)) wx (HK.out.keep (by rw [← HA.out]; exact hS.2.2.2.2)) HE.out HX5.out HB5.out p5).mono fun e w2 ⟨h1, h2⟩ => ⟨_, h1, by show Value.tuple _ = Value.tuple _; rw [HSF.out.1, HSF.out.2], h2⟩
      · have h6 := h
        have e6 : γ 6 = .tuple #[dgV s, .int .i64 f] := h6
        refine ⟨_, rfl, Or.inl ⟨rfl, predRun_value (v := .tuple #[dgV s, .int .i64 f]) (by simp only [putE, e6]; first | rfl | (go_simp; done) | (go_simp; with_reducible rfl) | (go_simp; rfl)) rfl⟩⟩
      · have h7 := h
        have e7 : γ 7 = .tuple #[dgV s, .int .i64 f] := h7
        refine ⟨_, rfl, Or.inl ⟨rfl, predRun_value (v := dgV s) (by simp only [putE, e7]; first | rfl | (go_simp; done) | (go_simp; with_reducible rfl) | (go_simp; rfl)) rfl⟩⟩
      · have h7 := h
        have e7 : γ 7 = .tuple #[dgV s, .int .i64 f] := h7
        refine ⟨_, rfl, Or.inl ⟨rfl, predRun_value (v := .int .i64 f) (by simp only [putE, e7]; first | rfl | (go_simp; done) | (go_simp; with_reducible rfl) | (go_simp; rfl)) rfl⟩⟩
      · refine ⟨_, rfl, Or.inl ⟨rfl, predRun_new (w' := wx.alloc z50) (v := .pointer (some ⟨wx.heap.size, 0, none⟩)) (by simp only [putE]; first | rfl | (go_simp; done) | (go_simp; rfl)) (more (Below.refl _ _) _) ⟨_, rfl, hS.2.2.2.1, Blk.new _ _⟩⟩⟩
    · refine ⟨fun γ wx hS h => ?_, trivial⟩
      · have h7 := h
        have e7 : γ 7 = .tuple #[dgV s, .int .i64 f] := h7
        refine ⟨_, .int .i64 f, rfl, Or.inl ⟨rfl, fun wz => by simp only [putE, e7]; first | rfl | (go_simp; done) | (go_simp; rfl)⟩, rfl⟩
    · intro γ w9 hS h
      have ez : γ 8 = dgV s := h.2.2.2.2.2.2.2.2.1
      have e9 : γ 9 = .int .i64 f := h.2.2.2.2.2.2.2.2.2.1
      obtain ⟨g3, ep, hMg, hg⟩ : ∃ g, γ 10 = .pointer (some ⟨g, 0, none⟩) ∧ M1 ≤ g ∧ Row w9 g 33 .u8 (fill 16 []) := h.2.2.2.2.2.2.2.2.2.2
      simp only [putE, Act.put, List.setIfInBounds_toArray, List.set_cons_zero, List.set_cons_succ]
      rw [ez, ep, e9]
      have HGA : Kp (Row w9 g3 33 .u8 (fill 16 [])) := ⟨hg⟩
      obtain ⟨W2, hW9⟩ : ∃ W, W = w9.setRow g3 (kv .u8 s).toArray := ⟨_, rfl⟩
      have R2_l : Kp (Row W2 (A) 32 .u8 x5) := ⟨by rw [hW9]; exact Row.otherRow hS.1 (by omega) _⟩
      have R2_r : Kp (Row W2 (A + 1) 32 .u8 x6) := ⟨by rw [hW9]; exact Row.otherRow hS.2.1 (by omega) _⟩
      have R2_g3 : Kp (Row W2 (g3) 33 .u8 s) := ⟨by rw [hW9]; exact HGA.out.setRow s⟩
      have Y2 : Kp (HoldsS W2 (.slice a7 20 cap7) 20 (z7.take (20 * 16))) := ⟨by rw [hW9]; exact hS.2.2.1.off2 (fun h0 => wayb_off (fun x hx => HWB1.out x hx h0) (by omega)) _⟩
      have B2 : Kp (Below A w W2) := ⟨by rw [hW9]; exact Below.row hS.2.2.2.2 (by omega) _⟩
      have HMg := Kp.mk hMg
      have HWk := Kp.mk hW9
      clear h hS ez ep e9 hg hW9 B1 HM1 hMg R1_l R1_r hb1_l hb1_r Y1 HWB1
      refine wpOps_step rfl rfl ?_
      refine wp_store_rowD rfl 33 (.tmp 17) (.tmp 37) rfl g3 (kv .u8 s).toArray rfl rfl 33 _ HGA.out (cells50 HL_s.out.1) (size50 HL_s.out.1) (kv_all _ _) ?_
      rw [← HWk.out]
      clear HWk HGA
      refine wpOps_step rfl rfl ?_
      refine wp_assign_endD (d := some 18) (v := .int .i64 f) rfl rfl rfl ?_
      simp only [Act.put, List.setIfInBounds_toArray, List.set_cons_zero, List.set_cons_succ]
      refine wpOps_done ?_
      go_wp2_with (refine wpList_load_row rfl 32 (.tmp 13) rfl (A) rfl 32 _ (0, 0) _ R2_l.out Tryd.underlying32 rfl (cells49 HX5.out) ?_)
      refine (rfold_any x0 x1 x2 x5 a7 20 cap7 (z7.take (20 * 16)) W2 HE.out HX5.out HB5.out Y2.out).mono ?_
      rintro r w3 ⟨v3, rfl, k1, -, hb⟩
      rw [HSF.out.1, HSF.out.2]
      obtain ⟨a8, n8, c8, rfl, -⟩ := k1.slice
      have F_l := Kp.mk (R2_l.out.keep hb)
      have F_r := Kp.mk (R2_r.out.keep hb)
      have F_g3 := Kp.mk (R2_g3.out.keep hb)
      have F_Y := Kp.mk (Y2.out.keep hb)
      have F_B : Kp (Below A w w3) := ⟨B2.out.trans (hb.mono (Nat.le_of_lt R2_l.out.lt))⟩
      clear k1 hb R2_l R2_r R2_g3 Y2 B2
      obtain ⟨W4, hW4⟩ : ∃ W, W = (w3.alloc z49).setRow w3.heap.size (kv .u8 s).toArray := ⟨_, rfl⟩
      have hb4 : Below w3.heap.size w3 W4 := by rw [hW4]; exact Below.row (more (Below.refl _ _) z49) (Nat.le_refl _) _
      have R4_l := Kp.mk (F_l.out.keep hb4)
      have R4_r := Kp.mk (F_r.out.keep hb4)
      have R4_g3 := Kp.mk (F_g3.out.keep hb4)
      have Y4 := Kp.mk (F_Y.out.keep hb4)
      have B4 : Kp (Below A w W4) := ⟨F_B.out.trans (hb4.mono (Nat.le_of_lt F_l.out.lt))⟩
      have R4_g4 : Kp (Row W4 w3.heap.size 32 .u8 s) := ⟨by rw [hW4]; exact Row.setRow (k := .u8) (l := fill 16 []) (Blk.new w3 z49) _⟩
      clear hb4 F_l F_r F_g3 F_Y F_B
      go_wp2_with (refine wpList_store_row rfl 32 (.tmp 19) (.tmp 46) rfl w3.heap.size (kv .u8 s).toArray rfl rfl 32 _ (Blk.new w3 z49) (cells49 HL_s.out.1) (size50 HL_s.out.1) (kv_all _ _) ?_; refine wpl_world (· = W4) hW4.symm ?_; clear hW4; intro W0 e0; rw [e0]; clear e0)
      obtain ⟨g4, hg4⟩ : ∃ g, g = w3.heap.size := ⟨_, rfl⟩
      rw [← hg4] at R4_g4
      rw [← hg4]
      clear hg4
      obtain ⟨ab, hab⟩ : ∃ ab, ab = shortL (aboveT x0 x1 x4 x5 x6) := ⟨_, rfl⟩
      have HL_ab : Kp (ab.length = 16 ∧ Bytes ab) := ⟨by rw [hab]; exact ⟨shortL_len _, shortL_bytes _⟩⟩
      have HAb := Kp.mk hab
      have HAb2 : Kp (shortL (71 :: (atL x0 x1 x4 ++ x5 ++ x6)) = ab) := ⟨hab.symm⟩
      clear hab
      obtain ⟨M4, hM⟩ : ∃ M, M = W4.heap.size := ⟨_, rfl⟩
      have hb4_l : A < M4 := by rw [hM]; exact R4_l.out.lt
      have hb4_r : A + 1 < M4 := by rw [hM]; exact R4_r.out.lt
      have hb4_g3 : g3 < M4 := by rw [hM]; exact R4_g3.out.lt
      have hb4_g4 : g4 < M4 := by rw [hM]; exact R4_g4.out.lt
      have HM4 : Kp (M4 ≤ W4.heap.size) := ⟨Nat.le_of_eq hM⟩
      have HWB4 : Kp (∀ x, a7 = some x → 0 < 20 → x.block < M4) := ⟨fun x hx h0 => by rw [hM]; exact way_lt Y4.out hx h0⟩
      clear hM
      refine wp_region_pred (fun w' => Row w' (A) 32 .u8 x5 ∧ Row w' (A + 1) 32 .u8 x6 ∧ Row w' (g3) 33 .u8 s ∧ Row w' (g4) 32 .u8 s ∧ HoldsS w' (.slice a7 20 cap7) 20 (z7.take (20 * 16)) ∧ M4 ≤ w'.heap.size ∧ Below A w w') [0, 1, 2, 3, 4, 5, 6, 7, 8, 9, 10, 11, 12, 13, 14, 15, 16, 17, 18, 19, 20, 21, 22, 23, 24, 25, 26, 27] []
        (fun ι w' v => match ι with
          | 1 | 2 | 5 | 6 | 7 | 10 | 11 | 12 | 26 | 27 => v = .bool false
          | 3 | 4 => v = .int .i64 f
          | 8 | 9 => v = dgV s
          | 13 | 19 => v = .int .i64 x0
          | 14 | 20 => v = .int .u32 x1
          | 15 | 21 => v = .int .i64 x4
          | 16 | 22 => v = dgV x5
          | 17 | 23 => v = dgV x6
          | 18 | 25 => v = dgV ab
          | 24 => HoldsB w' w'.heap.size v (aboveT x0 x1 x4 x5 x6)
          | _ => v = .bool true)
        [[], [(0, some 49)], [(0, some 49), (1, some 50)], [(2, some 51)], [(2, some 51)], [(2, some 51), (3, some 52), (4, some 53)], [(2, some 51), (5, some 54)], [(2, some 51), (6, some 55)], [(7, some 56)], [(7, some 56)], [(7, some 56), (8, some 57), (9, some 58)], [(7, some 56), (10, some 59)], [(7, some 56), (11, some 60)], [(12, some 61)], [(12, some 61)], [(12, some 61)], [(12, some 61)], [(12, some 61)], [(12, some 61), (13, some 62), (14, some 63), (15, some 64), (16, some 65), (17, some 66)], [(12, some 61)], [(12, some 61)], [(12, some 61)], [(12, some 61)], [(12, some 61)], [(12, some 61), (18, some 67), (19, some 68), (20, some 69), (21, some 70), (22, some 71), (23, some 72)], [(12, some 61), (24, some 73)], [(12, some 61), (18, some 67), (25, some 74)], [(12, some 61), (26, some 75)]]
        [(0, some 49), (1, some 50), (2, some 51), (3, some 52), (4, some 53), (5, some 54), (6, some 55), (7, some 56), (8, some 57), (9, some 58), (10, some 59), (11, some 60), (12, some 61), (13, some 62), (14, some 63), (15, some 64), (16, some 65), (17, some 66), (18, some 67), (19, some 68), (20, some 69), (21, some 70), (22, some 71), (23, some 72), (24, some 73), (25, some 74), (26, some 75), (27, some 76)]
        (by kernel_rfl) (by kernel_rfl) (by kernel_rfl) (by kernel_rfl) (by kernel_rfl) (by kernel_rfl) (by decide) (by decide) (fun w1 w2 h hb => ⟨h.1.keep hb, h.2.1.keep hb, h.2.2.1.keep hb, h.2.2.2.1.keep hb, h.2.2.2.2.1.keep hb, Nat.le_trans h.2.2.2.2.2.1 hb.size, h.2.2.2.2.2.2.trans (hb.mono (Nat.le_of_lt h.1.lt))⟩) ?_ ⟨R4_l.out.drew, R4_r.out.drew, R4_g3.out.drew, R4_g4.out.drew, Y4.out.drew, HM4.out, B4.out.drew⟩ ?_ ?_
      · intro ι w1 w2 v h hb
        by_cases h24 : ι = 24
        · subst h24
          exact (HoldsB.keep h hb).mono hb.size
        match ι, h24, h with
        | 0, _, h => exact h
        | 1, _, h => exact h
        | 2, _, h => exact h
        | 3, _, h => exact h
        | 4, _, h => exact h
        | 5, _, h => exact h
        | 6, _, h => exact h
        | 7, _, h => exact h
        | 8, _, h => exact h
        | 9, _, h => exact h
        | 10, _, h => exact h
        | 11, _, h => exact h
        | 12, _, h => exact h
        | 13, _, h => exact h
        | 14, _, h => exact h
        | 15, _, h => exact h
        | 16, _, h => exact h
        | 17, _, h => exact h
        | 18, _, h => exact h
        | 19, _, h => exact h
        | 20, _, h => exact h
        | 21, _, h => exact h
        | 22, _, h => exact h
        | 23, _, h => exact h
        | 24, g, h => exact absurd rfl g
        | 25, _, h => exact h
        | 26, _, h => exact h
        | 27, _, h => exact h
        | _ + 28, _, h => exact h
      · refine ⟨fun γ wx hS h => ?_, fun γ wx hS h => ?_, fun γ wx hS h => ?_, fun γ wx hS h => ?_, fun γ wx hS h => ?_, fun γ wx hS h => ?_, fun γ wx hS h => ?_, fun γ wx hS h => ?_, fun γ wx hS h => ?_, fun γ wx hS h => ?_, fun γ wx hS h => ?_, fun γ wx hS h => ?_, fun γ wx hS h => ?_, fun γ wx hS h => ?_, fun γ wx hS h => ?_, fun γ wx hS h => ?_, fun γ wx hS h => ?_, fun γ wx hS h => ?_, fun γ wx hS h => ?_, fun γ wx hS h => ?_, fun γ wx hS h => ?_, fun γ wx hS h => ?_, fun γ wx hS h => ?_, fun γ wx hS h => ?_, fun γ wx hS h => ?_, fun γ wx hS h => ?_, fun γ wx hS h => ?_, fun γ wx hS h => ?_, trivial⟩
        · refine ⟨_, rfl, Or.inl ⟨rfl, predRun_call (f := 62) (args := #[]) (by simp only [putE]; go_simp) ?_⟩⟩
          exact (awake7 wx).mono fun e w2 ⟨h1, h2⟩ => ⟨_, h1, rfl, h2⟩
        · have h0 := h
          have e0 : γ 0 = .bool true := h0
          refine ⟨_, rfl, Or.inl ⟨rfl, predRun_value (v := .bool false) (by simp only [putE, e0]; first | rfl | (go_simp; done) | (go_simp; with_reducible rfl) | (go_simp; rfl)) rfl⟩⟩
        · obtain ⟨h0, h1⟩ := h
          have e0 : γ 0 = .bool true := h0
          have e1 : γ 1 = .bool false := h1
          refine ⟨_, rfl, Or.inl ⟨rfl, predRun_value (v := .bool false) (by simp only [putE, e0, e1]; first | rfl | (go_simp; done) | (go_simp; with_reducible rfl) | (go_simp; rfl)) rfl⟩⟩
        · have h2 := h
          have e2 : γ 2 = .bool false := h2
          refine ⟨_, rfl, Or.inl ⟨(by simp only [putE, e2]; first | kernel_rfl | rfl), predRun_value (v := .int .i64 f) (by simp only [putE, e2]; first | rfl | (go_simp; done) | (go_simp; with_reducible rfl) | (go_simp; rfl)) rfl⟩⟩
        · have h2 := h
          have e2 : γ 2 = .bool false := h2
          refine ⟨_, rfl, Or.inl ⟨(by simp only [putE, e2]; first | kernel_rfl | rfl), predRun_value (v := .int .i64 f) (by simp only [putE, e2]; first | rfl | (go_simp; done) | (go_simp; with_reducible rfl) | (go_simp; rfl)) rfl⟩⟩
        · obtain ⟨h2, h3, h4⟩ := h
          have e2 : γ 2 = .bool false := h2
          have e3 : γ 3 = .int .i64 f := h3
          have e4 : γ 4 = .int .i64 f := h4
          refine ⟨_, rfl, Or.inl ⟨(by simp only [putE, e2, e3, e4]; first | kernel_rfl | rfl), predRun_value (v := .bool false) (by simp only [putE, e2, e3, e4]; have hff : (f != f) = false := (by simp); first | (go_simp; done) | (go_simp; with_reducible rfl)) rfl⟩⟩
        · obtain ⟨h2, h5⟩ := h
          have e2 : γ 2 = .bool false := h2
          have e5 : γ 5 = .bool false := h5
          refine ⟨_, rfl, Or.inl ⟨rfl, predRun_value (v := .bool false) (by simp only [putE, e2, e5]; first | rfl | (go_simp; done) | (go_simp; with_reducible rfl) | (go_simp; rfl)) rfl⟩⟩
        · obtain ⟨h2, h6⟩ := h
          have e2 : γ 2 = .bool false := h2
          have e6 : γ 6 = .bool false := h6
          refine ⟨_, rfl, Or.inl ⟨rfl, predRun_value (v := .bool false) (by simp only [putE, e2, e6]; first | rfl | (go_simp; done) | (go_simp; with_reducible rfl) | (go_simp; rfl)) rfl⟩⟩
        · have h7 := h
          have e7 : γ 7 = .bool false := h7
          refine ⟨_, rfl, Or.inl ⟨(by simp only [putE, e7]; first | kernel_rfl | rfl), predRun_value (exec_load_blk 33 (.tmp 17) rfl (g3) rfl 33 _ (0, 0) _ hS.2.2.1 Tryd.underlying33 rfl (cells50 HL_s.out.1)) rfl⟩⟩
        · have h7 := h
          have e7 : γ 7 = .bool false := h7
          refine ⟨_, rfl, Or.inl ⟨(by simp only [putE, e7]; first | kernel_rfl | rfl), predRun_value (exec_load_blk 32 (.tmp 19) rfl (g4) rfl 32 _ (0, 0) _ hS.2.2.2.1 Tryd.underlying32 rfl (cells49 HL_s.out.1)) rfl⟩⟩
        · obtain ⟨h7, h8, h9⟩ := h
          have e7 : γ 7 = .bool false := h7
          have e8 : γ 8 = dgV s := h8
          have e9 : γ 9 = dgV s := h9
          refine ⟨_, rfl, Or.inl ⟨(by simp only [putE, e7, e8, e9]; first | kernel_rfl | rfl), predRun_value (v := .bool false) (by simp only [putE, e7, e8, e9]; have hq : ∀ w, (binOp .neq 33 (dgV s) (dgV s)).run Tryd.prog w = .ok (.bool false) w := fun w => neq50 (p := s) HL_s.out.2 HL_s.out.1 w; have hg := neg50; first | (go_simp; done) | (go_simp; with_reducible rfl)) rfl⟩⟩
        · obtain ⟨h7, h10⟩ := h
          have e7 : γ 7 = .bool false := h7
          have e10 : γ 10 = .bool false := h10
          refine ⟨_, rfl, Or.inl ⟨rfl, predRun_value (v := .bool false) (by simp only [putE, e7, e10]; first | rfl | (go_simp; done) | (go_simp; with_reducible rfl) | (go_simp; rfl)) rfl⟩⟩
        · obtain ⟨h7, h11⟩ := h
          have e7 : γ 7 = .bool false := h7
          have e11 : γ 11 = .bool false := h11
          refine ⟨_, rfl, Or.inl ⟨rfl, predRun_value (v := .bool false) (by simp only [putE, e7, e11]; first | rfl | (go_simp; done) | (go_simp; with_reducible rfl) | (go_simp; rfl)) rfl⟩⟩
        · have h12 := h
          have e12 : γ 12 = .bool false := h12
          refine ⟨_, rfl, Or.inl ⟨(by simp only [putE, e12]; first | kernel_rfl | rfl), predRun_value (v := .int .i64 x0) (by simp only [putE, e12]; first | rfl | (go_simp; done) | (go_simp; with_reducible rfl) | (go_simp; rfl)) rfl⟩⟩
        · have h12 := h
          have e12 : γ 12 = .bool false := h12
          refine ⟨_, rfl, Or.inl ⟨(by simp only [putE, e12]; first | kernel_rfl | rfl), predRun_value (v := .int .u32 x1) (by simp only [putE, e12]; first | rfl | (go_simp; done) | (go_simp; with_reducible rfl) | (go_simp; rfl)) rfl⟩⟩
        · have h12 := h
          have e12 : γ 12 = .bool false := h12
          refine ⟨_, rfl, Or.inl ⟨(by simp only [putE, e12]; first | kernel_rfl | rfl), predRun_value (v := .int .i64 x4) (by simp only [putE, e12]; first | rfl | (go_simp; done) | (go_simp; with_reducible rfl) | (go_simp; rfl)) rfl⟩⟩
        · have h12 := h
          have e12 : γ 12 = .bool false := h12
          refine ⟨_, rfl, Or.inl ⟨(by simp only [putE, e12]; first | kernel_rfl | rfl), predRun_value (exec_load_blk 32 (.tmp 13) rfl (A) rfl 32 _ (0, 0) _ hS.1 Tryd.underlying32 rfl (cells49 HX5.out)) rfl⟩⟩
        · have h12 := h
          have e12 : γ 12 = .bool false := h12
          refine ⟨_, rfl, Or.inl ⟨(by simp only [putE, e12]; first | kernel_rfl | rfl), predRun_value (exec_load_blk 32 (.tmp 14) rfl (A + 1) rfl 32 _ (0, 0) _ hS.2.1 Tryd.underlying32 rfl (cells49 HX6.out)) rfl⟩⟩
        · obtain ⟨h12, h13, h14, h15, h16, h17⟩ := h
          have e12 : γ 12 = .bool false := h12
          have e13 : γ 13 = .int .i64 x0 := h13
          have e14 : γ 14 = .int .u32 x1 := h14
          have e15 : γ 15 = .int .i64 x4 := h15
          have e16 : γ 16 = dgV x5 := h16
          have e17 : γ 17 = dgV x6 := h17
          refine ⟨_, rfl, Or.inl ⟨(by simp only [putE, e12, e13, e14, e15, e16, e17]; first | kernel_rfl | rfl), predRun_call (f := 70) (args := #[.int .i64 x0, .int .u32 x1, .int .i64 x4, dgV x5, dgV x6]) (by simp only [putE, e12, e13, e14, e15, e16, e17]; go_simp) ?_⟩⟩
          exact (above_any x0 x1 x4 x5 x6 wx (HK.out.keep (by rw [← HA.out]; exact hS.2.2.2.2.2.2)) HE.out HX5.out HB5.out HX6.out HB6.out).mono fun e w2 ⟨h1, h2⟩ => ⟨_, h1, congrArg dgV HAb.out.symm, h2⟩
        · have h12 := h
          have e12 : γ 12 = .bool false := h12
          refine ⟨_, rfl, Or.inl ⟨(by simp only [putE, e12]; first | kernel_rfl | rfl), predRun_value (v := .int .i64 x0) (by simp only [putE, e12]; first | rfl | (go_simp; done) | (go_simp; with_reducible rfl) | (go_simp; rfl)) rfl⟩⟩
        · have h12 := h
          have e12 : γ 12 = .bool false := h12
          refine ⟨_, rfl, Or.inl ⟨(by simp only [putE, e12]; first | kernel_rfl | rfl), predRun_value (v := .int .u32 x1) (by simp only [putE, e12]; first | rfl | (go_simp; done) | (go_simp; with_reducible rfl) | (go_simp; rfl)) rfl⟩⟩
        · have h12 := h
          have e12 : γ 12 = .bool false := h12
          refine ⟨_, rfl, Or.inl ⟨(by simp only [putE, e12]; first | kernel_rfl | rfl), predRun_value (v := .int .i64 x4) (by simp only [putE, e12]; first | rfl | (go_simp; done) | (go_simp; with_reducible rfl) | (go_simp; rfl)) rfl⟩⟩
        · have h12 := h
          have e12 : γ 12 = .bool false := h12
          refine ⟨_, rfl, Or.inl ⟨(by simp only [putE, e12]; first | kernel_rfl | rfl), predRun_value (exec_load_blk 32 (.tmp 13) rfl (A) rfl 32 _ (0, 0) _ hS.1 Tryd.underlying32 rfl (cells49 HX5.out)) rfl⟩⟩
        · have h12 := h
          have e12 : γ 12 = .bool false := h12
          refine ⟨_, rfl, Or.inl ⟨(by simp only [putE, e12]; first | kernel_rfl | rfl), predRun_value (exec_load_blk 32 (.tmp 14) rfl (A + 1) rfl 32 _ (0, 0) _ hS.2.1 Tryd.underlying32 rfl (cells49 HX6.out)) rfl⟩⟩
        · obtain ⟨h12, h18, h19, h20, h21, h22, h23⟩ := h
          have e12 : γ 12 = .bool false := h12
          have e18 : γ 18 = dgV ab := h18
          have e19 : γ 19 = .int .i64 x0 := h19
          have e20 : γ 20 = .int .u32 x1 := h20
          have e21 : γ 21 = .int .i64 x4 := h21
          have e22 : γ 22 = dgV x5 := h22
          have e23 : γ 23 = dgV x6 := h23
          refine ⟨_, rfl, Or.inl ⟨(by simp only [putE, e12, e18, e19, e20, e21, e22, e23]; first | kernel_rfl | rfl), predRun_call (f := 71) (args := #[.int .i64 x0, .int .u32 x1, .int .i64 x4, dgV x5, dgV x6]) (by simp only [putE, e12, e18, e19, e20, e21, e22, e23]; go_simp) ?_⟩⟩
          exact (rtextG_any x0 x1 x4 x5 x6 wx HE.out HX5.out HB5.out HX6.out HB6.out).mono fun e w2 ⟨v', h1, h2, _, h3⟩ => ⟨v', h1, h2, h3⟩
        · obtain ⟨h12, h24⟩ := h
          have e12 : γ 12 = .bool false := h12
          have p24 : HoldsB wx wx.heap.size (γ 24) (aboveT x0 x1 x4 x5 x6) := h24
          refine ⟨_, rfl, Or.inl ⟨(by simp only [putE, e12]; first | kernel_rfl | rfl), predRun_call (f := 36) (args := #[γ 24]) (by simp only [putE, e12]; go_simp) ?_⟩⟩
          exact (of_any _ (γ 24) 71 (atL x0 x1 x4 ++ x5 ++ x6) wx p24 (by simp [atL, be32_len, HX5.out, HX6.out])).mono fun e w2 ⟨h1, h2⟩ => ⟨_, h1, congrArg dgV HAb2.out, h2⟩
        · obtain ⟨h12, h18, h25⟩ := h
          have e12 : γ 12 = .bool false := h12
          have e18 : γ 18 = dgV ab := h18
          have e25 : γ 25 = dgV ab := h25
          refine ⟨_, rfl, Or.inl ⟨(by simp only [putE, e12, e18, e25]; first | kernel_rfl | rfl), predRun_value (v := .bool false) (by simp only [putE, e12, e18, e25]; have hq : ∀ w, (binOp .neq 33 (dgV ab) (dgV ab)).run Tryd.prog w = .ok (.bool false) w := fun w => neq50 (p := ab) HL_ab.out.2 HL_ab.out.1 w; have hg := neg50; first | (go_simp; done) | (go_simp; with_reducible rfl)) rfl⟩⟩
        · obtain ⟨h12, h26⟩ := h
          have e12 : γ 12 = .bool false := h12
          have e26 : γ 26 = .bool false := h26
          refine ⟨_, rfl, Or.inl ⟨rfl, predRun_value (v := .bool false) (by simp only [putE, e12, e26]; first | rfl | (go_simp; done) | (go_simp; with_reducible rfl) | (go_simp; rfl)) rfl⟩⟩
      · intro γ w9 hS h
        have e27 : γ 27 = .bool false := h.2.2.2.2.2.2.2.2.2.2.2.2.2.2.2.2.2.2.2.2.2.2.2.2.2.2.2
        have R5_l := Kp.mk hS.1
        have R5_r := Kp.mk hS.2.1
        have R5_g3 := Kp.mk hS.2.2.1
        have R5_g4 := Kp.mk hS.2.2.2.1
        have Y5 := Kp.mk hS.2.2.2.2.1
        have B5 := Kp.mk hS.2.2.2.2.2.2
        simp only [putE, Act.put, List.setIfInBounds_toArray, List.set_cons_zero, List.set_cons_succ]
        rw [e27]
        clear h hS e27 B4 HM4 HWB4 R4_l R4_r R4_g3 R4_g4 hb4_l hb4_r hb4_g3 hb4_g4 Y4
        refine wpOps_done ?_
        obtain ⟨L2, hL2⟩ : ∃ l, l = x6 ++ s := ⟨_, rfl⟩
        have HLL : Kp (L2.length = 2 * 16 ∧ Bytes L2) := ⟨by rw [hL2]; exact ⟨by rw [List.length_append, HX6.out, HL_s.out.1], HB6.out.append HL_s.out.2⟩⟩
        have HBd : Kp (∀ w, (Instr.buildSlice 65 2 #[(0, dgV x6), (1, dgV s)]).run Tryd.prog w = .ok (.slice (some ⟨w.heap.size, 0, none⟩) 2 2) (w.alloc (.cells (kv .u8 L2).toArray 32))) := ⟨fun w => by rw [hL2]; exact build65_2 HX6.out HL_s.out.1 w⟩
        clear hL2
        go_wp2_with first
          | (refine wpList_load_row rfl 32 (.tmp 14) rfl (A + 1) rfl 32 _ (0, 0) _ R5_r.out Tryd.underlying32 rfl (cells49 HX6.out) ?_)
          | (refine wpList_load_row rfl 32 (.tmp 19) rfl (g4) rfl 32 _ (0, 0) _ R5_g4.out Tryd.underlying32 rfl (cells49 HL_s.out.1) ?_)
          | (refine wpList_buildSlice_two rfl 65 2 (.tmp 77) (.tmp 78) rfl (dgV x6) (dgV s) rfl rfl _ _ (HBd.out _) ?_)
        obtain ⟨g7, hg7⟩ : ∃ g, g = w9.heap.size := ⟨_, rfl⟩
        rw [← hg7]
        refine wp_world (fun W => Row W A 32 .u8 x5 ∧ Row W g7 32 .u8 L2 ∧ (HoldsS W (.slice a7 20 cap7) 20 (z7.take (20 * 16))) ∧ Below A w W) ⟨Row.alloc R5_l.out _, Blk.newAt _ hg7, Y5.out.keep (more (Below.refl _ _) _), B5.out.alloc (Nat.le_of_lt R5_l.out.lt) _⟩ ?_
        have hA7 : A < g7 := by rw [hg7]; exact R5_l.out.lt
        clear R5_l R5_r R5_g3 R5_g4 Y5 B5 hg7 HBd
        rintro W7 ⟨k1, k2, k3, k4⟩
        have R7_l := Kp.mk k1
        have R7_g := Kp.mk k2
        have Y7 := Kp.mk k3
        have B7 := Kp.mk k4
        clear k1 k2 k3 k4
        go_loopw [23, 81] (fun _ c wr => ∃ k : Nat, k ≤ 2 ∧ c = .int .i64 k ∧ Kp (Row wr A 32 .u8 x5) ∧ Kp (Row wr g7 32 .u8 L2) ∧ Kp (HoldsS wr (.slice a7 20 cap7) 20 (z7.take (20 * 16))) ∧ Kp (Below A w wr)) (fun _ c _ => 2 - (intOf c).toNat)
        case atStart => exact ⟨0, by omega, rfl, R7_l, R7_g, Y7, B7⟩
        case round =>
          obtain ⟨k, hk, rfl, E_l, E_g, E_Y, E_B⟩ := hrel
          clear R7_l R7_g Y7 B7
          by_cases hlt : k < 2
          · obtain ⟨z, hz⟩ : ∃ z, z = segL L2 k := ⟨_, rfl⟩
            have HL_z : Kp (z.length = 16 ∧ Bytes z) := ⟨by rw [hz]; exact ⟨segL_len HLL.out.1 hlt, HLL.out.2.seg k⟩⟩
            have HR : Kp (wr.rangeAt g7 (k * 16) (kv .u8 z)) := ⟨by rw [hz]; exact E_g.out.mid (o := k * 16) (n := 16) (by have := HLL.out.1; omega)⟩
            have hAE : A < wr.heap.size := E_l.out.lt
            clear hz
            obtain ⟨W8, hW8⟩ : ∃ W2, W2 = (wr.alloc z49).setRow wr.heap.size (kv .u8 z).toArray := ⟨_, rfl⟩
            have hb8 : Below wr.heap.size wr W8 := by rw [hW8]; exact Below.row (more (Below.refl _ _) z49) (Nat.le_refl _) _
            have R8_l := Kp.mk (E_l.out.keep hb8)
            have R8_g := Kp.mk (E_g.out.keep hb8)
            have Y8 := Kp.mk (E_Y.out.keep hb8)
            have B8 : Kp (Below A w W8) := ⟨E_B.out.trans (hb8.mono (Nat.le_of_lt E_l.out.lt))⟩
            have R8_z : Kp (Row W8 wr.heap.size 32 .u8 z) := ⟨by rw [hW8]; exact Row.setRow (k := .u8) (l := fill 16 []) (Blk.new wr z49) _⟩
            have hlk : k < 2 := hlt
            clear hb8 E_l E_g E_Y E_B
            go_wp2_with first
              | (refine wpList_load_mid rfl 32 (.tmp 83) rfl g7 (k * 16) rfl (kv .u8 z) _ HR.out Tryd.underlying32 rfl (cellsL32 HL_z.out.1) ?_)
              | (refine wpList_store_row rfl 32 (.tmp 23) (.tmp 84) rfl wr.heap.size (kv .u8 z).toArray rfl rfl 32 _ (Blk.new wr z49) (cells49 HL_z.out.1) (size50 HL_z.out.1) (kv_all _ _) ?_; refine wpl_world (· = W8) hW8.symm ?_; clear hW8; intro W0 e0; rw [e0]; clear e0)
            obtain ⟨g8, hg8⟩ : ∃ g, g = wr.heap.size := ⟨_, rfl⟩
            rw [← hg8] at R8_z
            rw [← hg8]
            clear hg8 HR hAE
            obtain ⟨c, hc⟩ : ∃ c, c = checkB x0 x1 x3 z x2 x5 (z7.take (20 * 16)) 20 := ⟨_, rfl⟩
            have HCc := Kp.mk hc
            clear hc
            refine wp_region_pred (fun w' => Row w' (A) 32 .u8 x5 ∧ Row w' (g7) 32 .u8 L2 ∧ Row w' (g8) 32 .u8 z ∧ HoldsS w' (.slice a7 20 cap7) 20 (z7.take (20 * 16)) ∧ Below A w w') [0, 1, 2, 3, 4, 5, 6, 7, 8, 9, 10, 11, 12, 13, 14, 15, 16, 17] []
              (fun ι w' v => match ι with
                | 0 | 9 => v = .int .i64 x0
                | 1 | 10 => v = .int .u32 x1
                | 2 | 11 => v = .int .i64 x3
                | 3 | 12 => v = dgV z
                | 4 | 13 => v = .int .i64 x2
                | 5 | 14 => v = dgV x5
                | 6 | 15 => v = .slice a7 20 cap7
                | 8 | 16 => v = .bool c
                | 17 => v = .bool false
                | 7 => HoldsS w' v 20 (z7.take (20 * 16))
                | _ => v = .bool true)
              [[], [], [], [], [], [], [], [(6, some 91)], [(0, some 85), (1, some 86), (2, some 87), (3, some 88), (4, some 89), (5, some 90), (7, some 92)], [], [], [], [], [], [], [], [(8, some 93), (9, some 94), (10, some 95), (11, some 96), (12, some 97), (13, some 98), (14, some 99), (15, some 100)], [(8, some 93), (16, some 101)]]
              [(0, some 85), (1, some 86), (2, some 87), (3, some 88), (4, some 89), (5, some 90), (6, some 91), (7, some 92), (8, some 93), (9, some 94), (10, some 95), (11, some 96), (12, some 97), (13, some 98), (14, some 99), (15, some 100), (16, some 101), (17, some 102)]
              (by kernel_rfl) (by kernel_rfl) (by kernel_rfl) (by kernel_rfl) (by kernel_rfl) (by kernel_rfl) (by decide) (by decide) (fun w1 w2 h hb => ⟨h.1.keep hb, h.2.1.keep hb, h.2.2.1.keep hb, h.2.2.2.1.keep hb, h.2.2.2.2.trans (hb.mono (Nat.le_of_lt h.1.lt))⟩) ?_ ⟨R8_l.out.drew, R8_g.out.drew, R8_z.out.drew, Y8.out.drew, B8.out.drew⟩ ?_ ?_
            · intro ι w1 w2 v h hb
              by_cases h7 : ι = 7
              · subst h7
                exact HoldsS.keep h hb
              match ι, h7, h with
              | 0, _, h => exact h
              | 1, _, h => exact h
              | 2, _, h => exact h
              | 3, _, h => exact h
              | 4, _, h => exact h
              | 5, _, h => exact h
              | 6, _, h => exact h
              | 7, g, h => exact absurd rfl g
              | 8, _, h => exact h
              | 9, _, h => exact h
              | 10, _, h => exact h
              | 11, _, h => exact h
              | 12, _, h => exact h
              | 13, _, h => exact h
              | 14, _, h => exact h
              | 15, _, h => exact h
              | 16, _, h => exact h
              | 17, _, h => exact h
              | _ + 18, _, h => exact h
            · refine ⟨fun γ wx hS h => ?_, fun γ wx hS h => ?_, fun γ wx hS h => ?_, fun γ wx hS h => ?_, fun γ wx hS h => ?_, fun γ wx hS h => ?_, fun γ wx hS h => ?_, fun γ wx hS h => ?_, fun γ wx hS h => ?_, fun γ wx hS h => ?_, fun γ wx hS h => ?_, fun γ wx hS h => ?_, fun γ wx hS h => ?_, fun γ wx hS h => ?_, fun γ wx hS h => ?_, fun γ wx hS h => ?_, fun γ wx hS h => ?_, fun γ wx hS h => ?_, trivial⟩
              · refine ⟨_, rfl, Or.inl ⟨rfl, predRun_value (v := .int .i64 x0) (by simp only [putE]; first | rfl | (go_simp; done) | (go_simp; with_reducible rfl) | (go_simp; rfl)) rfl⟩⟩
              · refine ⟨_, rfl, Or.inl ⟨rfl, predRun_value (v := .int .u32 x1) (by simp only [putE]; first | rfl | (go_simp; done) | (go_simp; with_reducible rfl) | (go_simp; rfl)) rfl⟩⟩
              · refine ⟨_, rfl, Or.inl ⟨rfl, predRun_value (v := .int .i64 x3) (by simp only [putE]; first | rfl | (go_simp; done) | (go_simp; with_reducible rfl) | (go_simp; rfl)) rfl⟩⟩
              · refine ⟨_, rfl, Or.inl ⟨rfl, predRun_value (exec_load_blk 32 (.tmp 23) rfl (g8) rfl 32 _ (0, 0) _ hS.2.2.1 Tryd.underlying32 rfl (cells49 HL_z.out.1)) rfl⟩⟩
              · refine ⟨_, rfl, Or.inl ⟨rfl, predRun_value (v := .int .i64 x2) (by simp only [putE]; first | rfl | (go_simp; done) | (go_simp; with_reducible rfl) | (go_simp; rfl)) rfl⟩⟩
              · refine ⟨_, rfl, Or.inl ⟨rfl, predRun_value (exec_load_blk 32 (.tmp 13) rfl (A) rfl 32 _ (0, 0) _ hS.1 Tryd.underlying32 rfl (cells49 HX5.out)) rfl⟩⟩
              · refine ⟨_, rfl, Or.inl ⟨rfl, predRun_value (v := .slice a7 20 cap7) (by simp only [putE]; first | rfl | (go_simp; done) | (go_simp; with_reducible rfl) | (go_simp; rfl)) rfl⟩⟩
              · have h6 := h
                have e6 : γ 6 = .slice a7 20 cap7 := h6
                refine ⟨_, rfl, Or.inl ⟨rfl, predRun_call (f := 47) (args := #[.slice a7 20 cap7]) (by simp only [putE, e6]; go_simp) ?_⟩⟩
                refine (toS_any _ 20 (z7.take (20 * 16)) wx hS.2.2.2.1 HNs.out).mono ?_
                rintro e w2 ⟨v', h1, h2, h3⟩
                exact ⟨v', h1, HoldsS.ofRow HLb.out.2 (by have := HNs.out; unfold maxLen; omega) HLb.out.1 h2, h3⟩
              · obtain ⟨h0, h1, h2, h3, h4, h5, h7⟩ := h
                have e0 : γ 0 = .int .i64 x0 := h0
                have e1 : γ 1 = .int .u32 x1 := h1
                have e2 : γ 2 = .int .i64 x3 := h2
                have e3 : γ 3 = dgV z := h3
                have e4 : γ 4 = .int .i64 x2 := h4
                have e5 : γ 5 = dgV x5 := h5
                have p7 : HoldsS wx (γ 7) 20 (z7.take (20 * 16)) := h7
                obtain ⟨a9, c9, e9, -⟩ := id p7
                refine ⟨_, rfl, Or.inl ⟨rfl, predRun_call (f := 72) (args := #[.int .i64 x0, .int .u32 x1, .int .i64 x3, dgV z, .int .i64 x2, dgV x5, .slice a9 20 c9]) (by simp only [putE, e0, e1, e2, e3, e4, e5, e9]; go_simp) ?_⟩⟩
                rw [e9] at p7
                exact (check_any x0 x1 x3 x2 z x5 a9 20 c9 (z7.take (20 * 16)) wx (HK.out.keep (by rw [← HA.out]; exact hS.2.2.2.2)) HE.out HL_z.out.1 HL_z.out.2 HX5.out HB5.out p7).mono fun e w2 ⟨h1, h2⟩ => ⟨_, h1, by show Value.bool _ = Value.bool c; rw [HCc.out], h2⟩
              · refine ⟨_, rfl, Or.inl ⟨rfl, predRun_value (v := .int .i64 x0) (by simp only [putE]; first | rfl | (go_simp; done) | (go_simp; with_reducible rfl) | (go_simp; rfl)) rfl⟩⟩
              · refine ⟨_, rfl, Or.inl ⟨rfl, predRun_value (v := .int .u32 x1) (by simp only [putE]; first | rfl | (go_simp; done) | (go_simp; with_reducible rfl) | (go_simp; rfl)) rfl⟩⟩
              · refine ⟨_, rfl, Or.inl ⟨rfl, predRun_value (v := .int .i64 x3) (by simp only [putE]; first | rfl | (go_simp; done) | (go_simp; with_reducible rfl) | (go_simp; rfl)) rfl⟩⟩
              · refine ⟨_, rfl, Or.inl ⟨rfl, predRun_value (exec_load_blk 32 (.tmp 23) rfl (g8) rfl 32 _ (0, 0) _ hS.2.2.1 Tryd.underlying32 rfl (cells49 HL_z.out.1)) rfl⟩⟩
              · refine ⟨_, rfl, Or.inl ⟨rfl, predRun_value (v := .int .i64 x2) (by simp only [putE]; first | rfl | (go_simp; done) | (go_simp; with_reducible rfl) | (go_simp; rfl)) rfl⟩⟩
              · refine ⟨_, rfl, Or.inl ⟨rfl, predRun_value (exec_load_blk 32 (.tmp 13) rfl (A) rfl 32 _ (0, 0) _ hS.1 Tryd.underlying32 rfl (cells49 HX5.out)) rfl⟩⟩
              · refine ⟨_, rfl, Or.inl ⟨rfl, predRun_value (v := .slice a7 20 cap7) (by simp only [putE]; first | rfl | (go_simp; done) | (go_simp; with_reducible rfl) | (go_simp; rfl)) rfl⟩⟩
              · obtain ⟨h8, h9, h10, h11, h12, h13, h14, h15⟩ := h
                have e8 : γ 8 = .bool c := h8
                have e9 : γ 9 = .int .i64 x0 := h9
                have e10 : γ 10 = .int .u32 x1 := h10
                have e11 : γ 11 = .int .i64 x3 := h11
                have e12 : γ 12 = dgV z := h12
                have e13 : γ 13 = .int .i64 x2 := h13
                have e14 : γ 14 = dgV x5 := h14
                have e15 : γ 15 = .slice a7 20 cap7 := h15
                refine ⟨_, rfl, Or.inl ⟨rfl, predRun_call (f := 73) (args := #[.int .i64 x0, .int .u32 x1, .int .i64 x3, dgV z, .int .i64 x2, dgV x5, .slice a7 20 cap7]) (by simp only [putE, e8, e9, e10, e11, e12, e13, e14, e15]; go_simp) ?_⟩⟩
                exact (rcheck_any x0 x1 x3 x2 z x5 a7 20 cap7 (z7.take (20 * 16)) wx HE.out HL_z.out.1 HL_z.out.2 HX5.out HB5.out hS.2.2.2.1).mono fun e w2 ⟨h1, h2⟩ => ⟨_, h1, by show Value.bool _ = Value.bool c; rw [HCc.out], h2⟩
              · obtain ⟨h8, h16⟩ := h
                have e8 : γ 8 = .bool c := h8
                have e16 : γ 16 = .bool c := h16
                refine ⟨_, rfl, Or.inl ⟨rfl, predRun_value (v := .bool false) (by simp only [putE, e8, e16]; clear HCc; cases c <;> first | rfl | (go_simp; done) | (go_simp; with_reducible rfl) | (go_simp; rfl)) rfl⟩⟩
            · intro γ w9 hS h
              have e17 : γ 17 = .bool false := h.2.2.2.2.2.2.2.2.2.2.2.2.2.2.2.2.2
              have E_l := Kp.mk hS.1
              have E_g := Kp.mk hS.2.1
              have E_Y := Kp.mk hS.2.2.2.1
              have E_B := Kp.mk hS.2.2.2.2
              simp only [putE, Act.put, List.setIfInBounds_toArray, List.set_cons_zero, List.set_cons_succ]
              rw [e17]
              clear h hS e17 R8_l R8_g R8_z Y8 B8
              refine wpOps_done ?_
              go_wp2_with fail
              exact ⟨⟨k + 1, by omega, by go_num, E_l, E_g, E_Y, E_B⟩, by simp [intOf]; omega⟩
          · have hge : ¬ (k : Int) < 2 := by omega
            go_wp2_with fail
            go_ret
            exact ⟨rfl, by rw [← HA.out]; exact E_B.out⟩
  · have hcut2 : ¬ (20 : Int) < (len7 : Int) := by omega
    go_enter Tryd.func14, Tryd.ntmps14
    go_wp2_with fail
    rw [← hA]
    refine wp_world (fun W => Row W A 32 .u8 x5 ∧ Row W (A + 1) 32 .u8 x6 ∧ HoldsS W (.slice a7 len7 cap7) len7 z7 ∧ Below A w W) ⟨Blk.old (Blk.newAt _ hA) _, Blk.newAt _ (by simp [hA]), HR7.out.keep (more (more (Below.refl _ _) _) _), by rw [hA]; exact more (more (Below.refl _ _) _) _⟩ ?_
    clear hA
    rintro W1 ⟨g1, g2, g3, g4⟩
    have R1_l := Kp.mk g1
    have R1_r := Kp.mk g2
    have Y1 := Kp.mk g3
    have B1 := Kp.mk g4
    clear g1 g2 g3 g4
    have HNs : Kp (len7 ≤ 1000000) := ⟨by omega⟩
    have HLb : Kp ((z7).length = len7 * 16 ∧ Bytes z7) := ⟨by obtain ⟨_, _, _, k1, _, k2, _⟩ := Y1.out; exact ⟨k1, k2⟩⟩
    obtain ⟨s, hs⟩ : ∃ s, s = foldS x0 x1 x5 x2 z7 len7 := ⟨_, rfl⟩
    obtain ⟨f, hf⟩ : ∃ f, f = foldF x2 len7 := ⟨_, rfl⟩
    have HSF : Kp (foldS x0 x1 x5 x2 z7 len7 = s ∧ foldF x2 len7 = f) := ⟨hs.symm, hf.symm⟩
    have HL_s : Kp (s.length = 16 ∧ Bytes s) := ⟨by rw [hs]; exact ⟨foldS_len _ _ _ _ _ _ HX5.out, foldS_bytes _ _ _ _ _ _ HB5.out⟩⟩
    clear hs hf
    obtain ⟨M1, hM⟩ : ∃ M, M = W1.heap.size := ⟨_, rfl⟩
    have hb1_l : A < M1 := by rw [hM]; exact R1_l.out.lt
    have hb1_r : A + 1 < M1 := by rw [hM]; exact R1_r.out.lt
    have HM1 : Kp (M1 ≤ W1.heap.size) := ⟨Nat.le_of_eq hM⟩
    have HWB1 : Kp (∀ x, a7 = some x → 0 < len7 → x.block < M1) := ⟨fun x hx h0 => by rw [hM]; exact way_lt Y1.out hx h0⟩
    clear hM
    refine wp_region_predQ (fun w' => Row w' (A) 32 .u8 x5 ∧ Row w' (A + 1) 32 .u8 x6 ∧ HoldsS w' (.slice a7 len7 cap7) len7 z7 ∧ M1 ≤ w'.heap.size ∧ Below A w w') [0, 1, 2, 3, 4, 5, 6, 7, 8, 9, 10] [9] [11, 12]
      (fun ι w' v => match ι with
        | 0 => v = .int .i64 x0
        | 1 => v = .int .u32 x1
        | 2 => v = .int .i64 x2
        | 3 => v = dgV x5
        | 4 => v = .slice a7 len7 cap7
        | 6 | 7 => v = .tuple #[dgV s, .int .i64 f]
        | 8 => v = dgV s
        | 9 => v = .int .i64 f
        | 5 => HoldsS w' v len7 z7
        | 10 => ∃ g, v = .pointer (some ⟨g, 0, none⟩) ∧ M1 ≤ g ∧ Row w' g 33 .u8 (fill 16 [])
        | _ => v = .bool true)
      [[], [], [], [], [], [(4, some 34)], [(0, some 30), (1, some 31), (2, some 32), (3, some 33), (5, some 35)], [(6, some 36)], [(7, some 29)], [(7, some 29)], []]
      [[(7, some 29)]]
      [(0, some 30), (1, some 31), (2, some 32), (3, some 33), (4, some 34), (5, some 35), (6, some 36), (7, some 29), (8, some 37), (9, some 38), (10, some 17)]
      (by kernel_rfl) (by kernel_rfl) (by kernel_rfl) (by kernel_rfl) (by kernel_rfl) (by kernel_rfl) (by kernel_rfl) (by decide) (by decide) (fun w1 w2 h hb => ⟨h.1.keep hb, h.2.1.keep hb, h.2.2.1.keep hb, Nat.le_trans h.2.2.2.1 hb.size, h.2.2.2.2.trans (hb.mono (Nat.le_of_lt h.1.lt))⟩) (fun c a w d v h => by cases d <;> exact h) ?_ ⟨R1_l.out.drew, R1_r.out.drew, Y1.out.drew, HM1.out, B1.out.drew⟩ ?_ ?_ ?_
    · intro ι w1 w2 v h hb
      by_cases h5 : ι = 5
      · subst h5
        exact HoldsS.keep h hb
      by_cases h10 : ι = 10
      · subst h10
        exact (by obtain ⟨g, e, h1, hg⟩ := h; exact ⟨g, e, h1, hg.keep hb⟩)
      match ι, h5, h10, h with
      | 0, _, _, h => exact h
      | 1, _, _, h => exact h
      | 2, _, _, h => exact h
      | 3, _, _, h => exact h
      | 4, _, _, h => exact h
      | 5, g, _, h => exact absurd rfl g
      | 6, _, _, h => exact h
      | 7, _, _, h => exact h
      | 8, _, _, h => exact h
      | 9, _, _, h => exact h
      | 10, _, g, h => exact absurd rfl g
      | _ + 11, _, _, h => exact h
    · refine ⟨fun γ wx hS h => ?_, fun γ wx hS h => ?_, fun γ wx hS h => ?_, fun γ wx hS h => ?_, fun γ wx hS h => ?_, fun γ wx hS h => ?_, fun γ wx hS h => ?_, fun γ wx hS h => ?_, fun γ wx hS h => ?_, fun γ wx hS h => ?_, fun γ wx hS h => ?_, trivial⟩
      · refine ⟨_, rfl, Or.inl ⟨rfl, predRun_value (v := .int .i64 x0) (by simp only [putE]; first | rfl | (go_simp; done) | (go_simp; with_reducible rfl) | (go_simp; rfl)) rfl⟩⟩
      · refine ⟨_, rfl, Or.inl ⟨rfl, predRun_value (v := .int .u32 x1) (by simp only [putE]; first | rfl | (go_simp; done) | (go_simp; with_reducible rfl) | (go_simp; rfl)) rfl⟩⟩
      · refine ⟨_, rfl, Or.inl ⟨rfl, predRun_value (v := .int .i64 x2) (by simp only [putE]; first | rfl | (go_simp; done) | (go_simp; with_reducible rfl) | (go_simp; rfl)) rfl⟩⟩
      · refine ⟨_, rfl, Or.inl ⟨rfl, predRun_value (exec_load_blk 32 (.tmp 13) rfl (A) rfl 32 _ (0, 0) _ hS.1 Tryd.underlying32 rfl (cells49 HX5.out)) rfl⟩⟩
      · refine ⟨_, rfl, Or.inl ⟨rfl, predRun_value (v := .slice a7 len7 cap7) (by simp only [putE]; first | rfl | (go_simp; done) | (go_simp; with_reducible rfl) | (go_simp; rfl)) rfl⟩⟩
      · have h4 := h
        have e4 : γ 4 = .slice a7 len7 cap7 := h4
        refine ⟨_, rfl, Or.inl ⟨rfl, predRun_call (f := 47) (args := #[.slice a7 len7 cap7]) (by simp only [putE, e4]; go_simp) ?_⟩⟩
        refine (toS_any _ len7 z7 wx hS.2.2.1 HNs.out).mono ?_
        rintro e w2 ⟨v', h1, h2, h3⟩
        exact ⟨v', h1, HoldsS.ofRow HLb.out.2 (by have := HNs.out; unfold maxLen; omega) HLb.out.1 h2, h3⟩
      · obtain ⟨h0, h1, h2, h3, h5⟩ := h
        have e0 : γ 0 = .int .i64 x0 := h0
        have e1 : γ 1 = .int .u32 x1 := h1
        have e2 : γ 2 = .int .i64 x2 := h2
        have e3 : γ 3 = dgV x5 := h3
        have p5 : HoldsS wx (γ 5) len7 z7 := h5
        obtain ⟨a9, c9, e9, -⟩ := id p5
        refine ⟨_, rfl, Or.inl ⟨rfl, predRun_call (f := 68) (args := #[.int .i64 x0, .int .u32 x1, .int .i64 x2, dgV x5, .slice a9 len7 c9]) (by simp only [putE, e0, e1, e2, e3, e9]; go_simp) ?_⟩⟩
        rw [e9] at p5
        exact (fold_any x0 x1 x2 x5 a9 len7 c9 z7 wx (HK.out.keep (by rw [← HA.out]; exact hS.2.2.2.2)) HE.out HX5.out HB5.out p5).mono fun e w2 ⟨h1, h2⟩ => ⟨_, h1, by show Value.tuple _ = Value.tuple _; rw [HSF.out.1, HSF.out.2], h2⟩
      · have h6 := h
        have e6 : γ 6 = .tuple #[dgV s, .int .i64 f] := h6
        refine ⟨_, rfl, Or.inl ⟨rfl, predRun_value (v := .tuple #[dgV s, .int .i64 f]) (by simp only [putE, e6]; first | rfl | (go_simp; done) | (go_simp; with_reducible rfl) | (go_simp; rfl)) rfl⟩⟩
      · have h7 := h
        have e7 : γ 7 = .tuple #[dgV s, .int .i64 f] := h7
        refine ⟨_, rfl, Or.inl ⟨rfl, predRun_value (v := dgV s) (by simp only [putE, e7]; first | rfl | (go_simp; done) | (go_simp; with_reducible rfl) | (go_simp; rfl)) rfl⟩⟩
      · have h7 := h
        have e7 : γ 7 = .tuple #[dgV s, .int .i64 f] := h7
        refine ⟨_, rfl, Or.inl ⟨rfl, predRun_value (v := .int .i64 f) (by simp only [putE, e7]; first | rfl | (go_simp; done) | (go_simp; with_reducible rfl) | (go_simp; rfl)) rfl⟩⟩
      · refine ⟨_, rfl, Or.inl ⟨rfl, predRun_new (w' := wx.alloc z50) (v := .pointer (some ⟨wx.heap.size, 0, none⟩)) (by simp only [putE]; first | rfl | (go_simp; done) | (go_simp; rfl)) (more (Below.refl _ _) _) ⟨_, rfl, hS.2.2.2.1, Blk.new _ _⟩⟩⟩
    · refine ⟨fun γ wx hS h => ?_, trivial⟩
      · have h7 := h
        have e7 : γ 7 = .tuple #[dgV s, .int .i64 f] := h7
        refine ⟨_, .int .i64 f, rfl, Or.inl ⟨rfl, fun wz => by simp only [putE, e7]; first | rfl | (go_simp; done) | (go_simp; rfl)⟩, rfl⟩
    · intro γ w9 hS h
      have ez : γ 8 = dgV s := h.2.2.2.2.2.2.2.2.1
      have e9 : γ 9 = .int .i64 f := h.2.2.2.2.2.2.2.2.2.1
      obtain ⟨g3, ep, hMg, hg⟩ : ∃ g, γ 10 = .pointer (some ⟨g, 0, none⟩) ∧ M1 ≤ g ∧ Row w9 g 33 .u8 (fill 16 []) := h.2.2.2.2.2.2.2.2.2.2
      simp only [putE, Act.put, List.setIfInBounds_toArray, List.set_cons_zero, List.set_cons_succ]
      rw [ez, ep, e9]
      have HGA : Kp (Row w9 g3 33 .u8 (fill 16 [])) := ⟨hg⟩
      obtain ⟨W2, hW9⟩ : ∃ W, W = w9.setRow g3 (kv .u8 s).toArray := ⟨_, rfl⟩
      have R2_l : Kp (Row W2 (A) 32 .u8 x5) := ⟨by rw [hW9]; exact Row.otherRow hS.1 (by omega) _⟩
      have R2_r : Kp (Row W2 (A + 1) 32 .u8 x6) := ⟨by rw [hW9]; exact Row.otherRow hS.2.1 (by omega) _⟩
      have R2_g3 : Kp (Row W2 (g3) 33 .u8 s) := ⟨by rw [hW9]; exact HGA.out.setRow s⟩
      have Y2 : Kp (HoldsS W2 (.slice a7 len7 cap7) len7 z7) := ⟨by rw [hW9]; exact hS.2.2.1.off2 (fun h0 => wayb_off (fun x hx => HWB1.out x hx h0) (by omega)) _⟩
      have B2 : Kp (Below A w W2) := ⟨by rw [hW9]; exact Below.row hS.2.2.2.2 (by omega) _⟩
      have HMg := Kp.mk hMg
      have HWk := Kp.mk hW9
      clear h hS ez ep e9 hg hW9 B1 HM1 hMg R1_l R1_r hb1_l hb1_r Y1 HWB1
      refine wpOps_step rfl rfl ?_
      refine wp_store_rowD rfl 33 (.tmp 17) (.tmp 37) rfl g3 (kv .u8 s).toArray rfl rfl 33 _ HGA.out (cells50 HL_s.out.1) (size50 HL_s.out.1) (kv_all _ _) ?_
      rw [← HWk.out]
      clear HWk HGA
      refine wpOps_step rfl rfl ?_
      refine wp_assign_endD (d := some 18) (v := .int .i64 f) rfl rfl rfl ?_
      simp only [Act.put, List.setIfInBounds_toArray, List.set_cons_zero, List.set_cons_succ]
      refine wpOps_done ?_
      go_wp2_with (refine wpList_load_row rfl 32 (.tmp 13) rfl (A) rfl 32 _ (0, 0) _ R2_l.out Tryd.underlying32 rfl (cells49 HX5.out) ?_)
      refine (rfold_any x0 x1 x2 x5 a7 len7 cap7 z7 W2 HE.out HX5.out HB5.out Y2.out).mono ?_
      rintro r w3 ⟨v3, rfl, k1, -, hb⟩
      rw [HSF.out.1, HSF.out.2]
      obtain ⟨a8, n8, c8, rfl, -⟩ := k1.slice
      have F_l := Kp.mk (R2_l.out.keep hb)
      have F_r := Kp.mk (R2_r.out.keep hb)
      have F_g3 := Kp.mk (R2_g3.out.keep hb)
      have F_Y := Kp.mk (Y2.out.keep hb)
      have F_B : Kp (Below A w w3) := ⟨B2.out.trans (hb.mono (Nat.le_of_lt R2_l.out.lt))⟩
      clear k1 hb R2_l R2_r R2_g3 Y2 B2
      obtain ⟨W4, hW4⟩ : ∃ W, W = (w3.alloc z49).setRow w3.heap.size (kv .u8 s).toArray := ⟨_, rfl⟩
      have hb4 : Below w3.heap.size w3 W4 := by rw [hW4]; exact Below.row (more (Below.refl _ _) z49) (Nat.le_refl _) _
      have R4_l := Kp.mk (F_l.out.keep hb4)
      have R4_r := Kp.mk (F_r.out.keep hb4)
      have R4_g3 := Kp.mk (F_g3.out.keep hb4)
      have Y4 := Kp.mk (F_Y.out.keep hb4)
      have B4 : Kp (Below A w W4) := ⟨F_B.out.trans (hb4.mono (Nat.le_of_lt F_l.out.lt))⟩
      have R4_g4 : Kp (Row W4 w3.heap.size 32 .u8 s) := ⟨by rw [hW4]; exact Row.setRow (k := .u8) (l := fill 16 []) (Blk.new w3 z49) _⟩
      clear hb4 F_l F_r F_g3 F_Y F_B
      go_wp2_with (refine wpList_store_row rfl 32 (.tmp 19) (.tmp 46) rfl w3.heap.size (kv .u8 s).toArray rfl rfl 32 _ (Blk.new w3 z49) (cells49 HL_s.out.1) (size50 HL_s.out.1) (kv_all _ _) ?_; refine wpl_world (· = W4) hW4.symm ?_; clear hW4; intro W0 e0; rw [e0]; clear e0)
      obtain ⟨g4, hg4⟩ : ∃ g, g = w3.heap.size := ⟨_, rfl⟩
      rw [← hg4] at R4_g4
      rw [← hg4]
      clear hg4
      obtain ⟨ab, hab⟩ : ∃ ab, ab = shortL (aboveT x0 x1 x4 x5 x6) := ⟨_, rfl⟩
      have HL_ab : Kp (ab.length = 16 ∧ Bytes ab) := ⟨by rw [hab]; exact ⟨shortL_len _, shortL_bytes _⟩⟩
      have HAb := Kp.mk hab
      have HAb2 : Kp (shortL (71 :: (atL x0 x1 x4 ++ x5 ++ x6)) = ab) := ⟨hab.symm⟩
      clear hab
      obtain ⟨M4, hM⟩ : ∃ M, M = W4.heap.size := ⟨_, rfl⟩
      have hb4_l : A < M4 := by rw [hM]; exact R4_l.out.lt
      have hb4_r : A + 1 < M4 := by rw [hM]; exact R4_r.out.lt
      have hb4_g3 : g3 < M4 := by rw [hM]; exact R4_g3.out.lt
      have hb4_g4 : g4 < M4 := by rw [hM]; exact R4_g4.out.lt
      have HM4 : Kp (M4 ≤ W4.heap.size) := ⟨Nat.le_of_eq hM⟩
      have HWB4 : Kp (∀ x, a7 = some x → 0 < len7 → x.block < M4) := ⟨fun x hx h0 => by rw [hM]; exact way_lt Y4.out hx h0⟩
      clear hM
      refine wp_region_pred (fun w' => Row w' (A) 32 .u8 x5 ∧ Row w' (A + 1) 32 .u8 x6 ∧ Row w' (g3) 33 .u8 s ∧ Row w' (g4) 32 .u8 s ∧ HoldsS w' (.slice a7 len7 cap7) len7 z7 ∧ M4 ≤ w'.heap.size ∧ Below A w w') [0, 1, 2, 3, 4, 5, 6, 7, 8, 9, 10, 11, 12, 13, 14, 15, 16, 17, 18, 19, 20, 21, 22, 23, 24, 25, 26, 27] []
        (fun ι w' v => match ι with
          | 1 | 2 | 5 | 6 | 7 | 10 | 11 | 12 | 26 | 27 => v = .bool false
          | 3 | 4 => v = .int .i64 f
          | 8 | 9 => v = dgV s
          | 13 | 19 => v = .int .i64 x0
          | 14 | 20 => v = .int .u32 x1
          | 15 | 21 => v = .int .i64 x4
          | 16 | 22 => v = dgV x5
          | 17 | 23 => v = dgV x6
          | 18 | 25 => v = dgV ab
          | 24 => HoldsB w' w'.heap.size v (aboveT x0 x1 x4 x5 x6)
          | _ => v = .bool true)
        [[], [(0, some 49)], [(0, some 49), (1, some 50)], [(2, some 51)], [(2, some 51)], [(2, some 51), (3, some 52), (4, some 53)], [(2, some 51), (5, some 54)], [(2, some 51), (6, some 55)], [(7, some 56)], [(7, some 56)], [(7, some 56), (8, some 57), (9, some 58)], [(7, some 56), (10, some 59)], [(7, some 56), (11, some 60)], [(12, some 61)], [(12, some 61)], [(12, some 61)], [(12, some 61)], [(12, some 61)], [(12, some 61), (13, some 62), (14, some 63), (15, some 64), (16, some 65), (17, some 66)], [(12, some 61)], [(12, some 61)], [(12, some 61)], [(12, some 61)], [(12, some 61)], [(12, some 61), (18, some 67), (19, some 68), (20, some 69), (21, some 70), (22, some 71), (23, some 72)], [(12, some 61), (24, some 73)], [(12, some 61), (18, some 67), (25, some 74)], [(12, some 61), (26, some 75)]]
        [(0, some 49), (1, some 50), (2, some 51), (3, some 52), (4, some 53), (5, some 54), (6, some 55), (7, some 56), (8, some 57), (9, some 58), (10, some 59), (11, some 60), (12, some 61), (13, some 62), (14, some 63), (15, some 64), (16, some 65), (17, some 66), (18, some 67), (19, some 68), (20, some 69), (21, some 70), (22, some 71), (23, some 72), (24, some 73), (25, some 74), (26, some 75), (27, some 76)]
        (by kernel_rfl) (by kernel_rfl) (by kernel_rfl) (by kernel_rfl) (by kernel_rfl) (by kernel_rfl) (by decide) (by decide) (fun w1 w2 h hb => ⟨h.1.keep hb, h.2.1.keep hb, h.2.2.1.keep hb, h.2.2.2.1.keep hb, h.2.2.2.2.1.keep hb, Nat.le_trans h.2.2.2.2.2.1 hb.size, h.2.2.2.2.2.2.trans (hb.mono (Nat.le_of_lt h.1.lt))⟩) ?_ ⟨R4_l.out.drew, R4_r.out.drew, R4_g3.out.drew, R4_g4.out.drew, Y4.out.drew, HM4.out, B4.out.drew⟩ ?_ ?_
      · intro ι w1 w2 v h hb
        by_cases h24 : ι = 24
        · subst h24
          exact (HoldsB.keep h hb).mono hb.size
        match ι, h24, h with
        | 0, _, h => exact h
        | 1, _, h => exact h
        | 2, _, h => exact h
        | 3, _, h => exact h
        | 4, _, h => exact h
        | 5, _, h => exact h
        | 6, _, h => exact h
        | 7, _, h => exact h
        | 8, _, h => exact h
        | 9, _, h => exact h
        | 10, _, h => exact h
        | 11, _, h => exact h
        | 12, _, h => exact h
        | 13, _, h => exact h
        | 14, _, h => exact h
        | 15, _, h => exact h
        | 16, _, h => exact h
        | 17, _, h => exact h
        | 18, _, h => exact h
        | 19, _, h => exact h
        | 20, _, h => exact h
        | 21, _, h => exact h
        | 22, _, h => exact h
        | 23, _, h => exact h
        | 24, g, h => exact absurd rfl g
        | 25, _, h => exact h
        | 26, _, h => exact h
        | 27, _, h => exact h
        | _ + 28, _, h => exact h
      · refine ⟨fun γ wx hS h => ?_, fun γ wx hS h => ?_, fun γ wx hS h => ?_, fun γ wx hS h => ?_, fun γ wx hS h => ?_, fun γ wx hS h => ?_, fun γ wx hS h => ?_, fun γ wx hS h => ?_, fun γ wx hS h => ?_, fun γ wx hS h => ?_, fun γ wx hS h => ?_, fun γ wx hS h => ?_, fun γ wx hS h => ?_, fun γ wx hS h => ?_, fun γ wx hS h => ?_, fun γ wx hS h => ?_, fun γ wx hS h => ?_, fun γ wx hS h => ?_, fun γ wx hS h => ?_, fun γ wx hS h => ?_, fun γ wx hS h => ?_, fun γ wx hS h => ?_, fun γ wx hS h => ?_, fun γ wx hS h => ?_, fun γ wx hS h => ?_, fun γ wx hS h => ?_, fun γ wx hS h => ?_, fun γ wx hS h => ?_, trivial⟩
        · refine ⟨_, rfl, Or.inl ⟨rfl, predRun_call (f := 62) (args := #[]) (by simp only [putE]; go_simp) ?_⟩⟩
          exact (awake7 wx).mono fun e w2 ⟨h1, h2⟩ => ⟨_, h1, rfl, h2⟩
        · have h0 := h
          have e0 : γ 0 = .bool true := h0
          refine ⟨_, rfl, Or.inl ⟨rfl, predRun_value (v := .bool false) (by simp only [putE, e0]; first | rfl | (go_simp; done) | (go_simp; with_reducible rfl) | (go_simp; rfl)) rfl⟩⟩
        · obtain ⟨h0, h1⟩ := h
          have e0 : γ 0 = .bool true := h0
          have e1 : γ 1 = .bool false := h1
          refine ⟨_, rfl, Or.inl ⟨rfl, predRun_value (v := .bool false) (by simp only [putE, e0, e1]; first | rfl | (go_simp; done) | (go_simp; with_reducible rfl) | (go_simp; rfl)) rfl⟩⟩
        · have h2 := h
          have e2 : γ 2 = .bool false := h2
          refine ⟨_, rfl, Or.inl ⟨(by simp only [putE, e2]; first | kernel_rfl | rfl), predRun_value (v := .int .i64 f) (by simp only [putE, e2]; first | rfl | (go_simp; done) | (go_simp; with_reducible rfl) | (go_simp; rfl)) rfl⟩⟩
        · have h2 := h
          have e2 : γ 2 = .bool false := h2
          refine ⟨_, rfl, Or.inl ⟨(by simp only [putE, e2]; first | kernel_rfl | rfl), predRun_value (v := .int .i64 f) (by simp only [putE, e2]; first | rfl | (go_simp; done) | (go_simp; with_reducible rfl) | (go_simp; rfl)) rfl⟩⟩
        · obtain ⟨h2, h3, h4⟩ := h
          have e2 : γ 2 = .bool false := h2
          have e3 : γ 3 = .int .i64 f := h3
          have e4 : γ 4 = .int .i64 f := h4
          refine ⟨_, rfl, Or.inl ⟨(by simp only [putE, e2, e3, e4]; first | kernel_rfl | rfl), predRun_value (v := .bool false) (by simp only [putE, e2, e3, e4]; have hff : (f != f) = false := (by simp); first | (go_simp; done) | (go_simp; with_reducible rfl)) rfl⟩⟩
        · obtain ⟨h2, h5⟩ := h
          have e2 : γ 2 = .bool false := h2
          have e5 : γ 5 = .bool false := h5
          refine ⟨_, rfl, Or.inl ⟨rfl, predRun_value (v := .bool false) (by simp only [putE, e2, e5]; first | rfl | (go_simp; done) | (go_simp; with_reducible rfl) | (go_simp; rfl)) rfl⟩⟩
        · obtain ⟨h2, h6⟩ := h
          have e2 : γ 2 = .bool false := h2
          have e6 : γ 6 = .bool false := h6
          refine ⟨_, rfl, Or.inl ⟨rfl, predRun_value (v := .bool false) (by simp only [putE, e2, e6]; first | rfl | (go_simp; done) | (go_simp; with_reducible rfl) | (go_simp; rfl)) rfl⟩⟩
        · have h7 := h
          have e7 : γ 7 = .bool false := h7
          refine ⟨_, rfl, Or.inl ⟨(by simp only [putE, e7]; first | kernel_rfl | rfl), predRun_value (exec_load_blk 33 (.tmp 17) rfl (g3) rfl 33 _ (0, 0) _ hS.2.2.1 Tryd.underlying33 rfl (cells50 HL_s.out.1)) rfl⟩⟩
        · have h7 := h
          have e7 : γ 7 = .bool false := h7
          refine ⟨_, rfl, Or.inl ⟨(by simp only [putE, e7]; first | kernel_rfl | rfl), predRun_value (exec_load_blk 32 (.tmp 19) rfl (g4) rfl 32 _ (0, 0) _ hS.2.2.2.1 Tryd.underlying32 rfl (cells49 HL_s.out.1)) rfl⟩⟩
        · obtain ⟨h7, h8, h9⟩ := h
          have e7 : γ 7 = .bool false := h7
          have e8 : γ 8 = dgV s := h8
          have e9 : γ 9 = dgV s := h9
          refine ⟨_, rfl, Or.inl ⟨(by simp only [putE, e7, e8, e9]; first | kernel_rfl | rfl), predRun_value (v := .bool false) (by simp only [putE, e7, e8, e9]; have hq : ∀ w, (binOp .neq 33 (dgV s) (dgV s)).run Tryd.prog w = .ok (.bool false) w := fun w => neq50 (p := s) HL_s.out.2 HL_s.out.1 w; have hg := neg50; first | (go_simp; done) | (go_simp; with_reducible rfl)) rfl⟩⟩
        · obtain ⟨h7, h10⟩ := h
          have e7 : γ 7 = .bool false := h7
          have e10 : γ 10 = .bool false := h10
          refine ⟨_, rfl, Or.inl ⟨rfl, predRun_value (v := .bool false) (by simp only [putE, e7, e10]; first | rfl | (go_simp; done) | (go_simp; with_reducible rfl) | (go_simp; rfl)) rfl⟩⟩
        · obtain ⟨h7, h11⟩ := h
          have e7 : γ 7 = .bool false := h7
          have e11 : γ 11 = .bool false := h11
          refine ⟨_, rfl, Or.inl ⟨rfl, predRun_value (v := .bool false) (by simp only [putE, e7, e11]; first | rfl | (go_simp; done) | (go_simp; with_reducible rfl) | (go_simp; rfl)) rfl⟩⟩
        · have h12 := h
          have e12 : γ 12 = .bool false := h12
          refine ⟨_, rfl, Or.inl ⟨(by simp only [putE, e12]; first | kernel_rfl | rfl), predRun_value (v := .int .i64 x0) (by simp only [putE, e12]; first | rfl | (go_simp; done) | (go_simp; with_reducible rfl) | (go_simp; rfl)) rfl⟩⟩
        · have h12 := h
          have e12 : γ 12 = .bool false := h12
          refine ⟨_, rfl, Or.inl ⟨(by simp only [putE, e12]; first | kernel_rfl | rfl), predRun_value (v := .int .u32 x1) (by simp only [putE, e12]; first | rfl | (go_simp; done) | (go_simp; with_reducible rfl) | (go_simp; rfl)) rfl⟩⟩
        · have h12 := h
          have e12 : γ 12 = .bool false := h12
          refine ⟨_, rfl, Or.inl ⟨(by simp only [putE, e12]; first | kernel_rfl | rfl), predRun_value (v := .int .i64 x4) (by simp only [putE, e12]; first | rfl | (go_simp; done) | (go_simp; with_reducible rfl) | (go_simp; rfl)) rfl⟩⟩
        · have h12 := h
          have e12 : γ 12 = .bool false := h12
          refine ⟨_, rfl, Or.inl ⟨(by simp only [putE, e12]; first | kernel_rfl | rfl), predRun_value (exec_load_blk 32 (.tmp 13) rfl (A) rfl 32 _ (0, 0) _ hS.1 Tryd.underlying32 rfl (cells49 HX5.out)) rfl⟩⟩
        · have h12 := h
          have e12 : γ 12 = .bool false := h12
          refine ⟨_, rfl, Or.inl ⟨(by simp only [putE, e12]; first | kernel_rfl | rfl), predRun_value (exec_load_blk 32 (.tmp 14) rfl (A + 1) rfl 32 _ (0, 0) _ hS.2.1 Tryd.underlying32 rfl (cells49 HX6.out)) rfl⟩⟩
        · obtain ⟨h12, h13, h14, h15, h16, h17⟩ := h
          have e12 : γ 12 = .bool false := h12
          have e13 : γ 13 = .int .i64 x0 := h13
          have e14 : γ 14 = .int .u32 x1 := h14
          have e15 : γ 15 = .int .i64 x4 := h15
          have e16 : γ 16 = dgV x5 := h16
          have e17 : γ 17 = dgV x6 := h17
          refine ⟨_, rfl, Or.inl ⟨(by simp only [putE, e12, e13, e14, e15, e16, e17]; first | kernel_rfl | rfl), predRun_call (f := 70) (args := #[.int .i64 x0, .int .u32 x1, .int .i64 x4, dgV x5, dgV x6]) (by simp only [putE, e12, e13, e14, e15, e16, e17]; go_simp) ?_⟩⟩
          exact (above_any x0 x1 x4 x5 x6 wx (HK.out.keep (by rw [← HA.out]; exact hS.2.2.2.2.2.2)) HE.out HX5.out HB5.out HX6.out HB6.out).mono fun e w2 ⟨h1, h2⟩ => ⟨_, h1, congrArg dgV HAb.out.symm, h2⟩
        · have h12 := h
          have e12 : γ 12 = .bool false := h12
          refine ⟨_, rfl, Or.inl ⟨(by simp only [putE, e12]; first | kernel_rfl | rfl), predRun_value (v := .int .i64 x0) (by simp only [putE, e12]; first | rfl | (go_simp; done) | (go_simp; with_reducible rfl) | (go_simp; rfl)) rfl⟩⟩
        · have h12 := h
          have e12 : γ 12 = .bool false := h12
          refine ⟨_, rfl, Or.inl ⟨(by simp only [putE, e12]; first | kernel_rfl | rfl), predRun_value (v := .int .u32 x1) (by simp only [putE, e12]; first | rfl | (go_simp; done) | (go_simp; with_reducible rfl) | (go_simp; rfl)) rfl⟩⟩
        · have h12 := h
          have e12 : γ 12 = .bool false := h12
          refine ⟨_, rfl, Or.inl ⟨(by simp only [putE, e12]; first | kernel_rfl | rfl), predRun_value (v := .int .i64 x4) (by simp only [putE, e12]; first | rfl | (go_simp; done) | (go_simp; with_reducible rfl) | (go_simp; rfl)) rfl⟩⟩
        · have h12 := h
          have e12 : γ 12 = .bool false := h12
          refine ⟨_, rfl, Or.inl ⟨(by simp only [putE, e12]; first | kernel_rfl | rfl), predRun_value (exec_load_blk 32 (.tmp 13) rfl (A) rfl 32 _ (0, 0) _ hS.1 Tryd.underlying32 rfl (cells49 HX5.out)) rfl⟩⟩
        · have h12 := h
          have e12 : γ 12 = .bool false := h12
          refine ⟨_, rfl, Or.inl ⟨(by simp only [putE, e12]; first | kernel_rfl | rfl), predRun_value (exec_load_blk 32 (.tmp 14) rfl (A + 1) rfl 32 _ (0, 0) _ hS.2.1 Tryd.underlying32 rfl (cells49 HX6.out)) rfl⟩⟩
        · obtain ⟨h12, h18, h19, h20, h21, h22, h23⟩ := h
          have e12 : γ 12 = .bool false := h12
          have e18 : γ 18 = dgV ab := h18
          have e19 : γ 19 = .int .i64 x0 := h19
          have e20 : γ 20 = .int .u32 x1 := h20
          have e21 : γ 21 = .int .i64 x4 := h21
          have e22 : γ 22 = dgV x5 := h22
          have e23 : γ 23 = dgV x6 := h23
          refine ⟨_, rfl, Or.inl ⟨(by simp only [putE, e12, e18, e19, e20, e21, e22, e23]; first | kernel_rfl | rfl), predRun_call (f := 71) (args := #[.int .i64 x0, .int .u32 x1, .int .i64 x4, dgV x5, dgV x6]) (by simp only [putE, e12, e18, e19, e20, e21, e22, e23]; go_simp) ?_⟩⟩
          exact (rtextG_any x0 x1 x4 x5 x6 wx HE.out HX5.out HB5.out HX6.out HB6.out).mono fun e w2 ⟨v', h1, h2, _, h3⟩ => ⟨v', h1, h2, h3⟩
        · obtain ⟨h12, h24⟩ := h
          have e12 : γ 12 = .bool false := h12
          have p24 : HoldsB wx wx.heap.size (γ 24) (aboveT x0 x1 x4 x5 x6) := h24
          refine ⟨_, rfl, Or.inl ⟨(by simp only [putE, e12]; first | kernel_rfl | rfl), predRun_call (f := 36) (args := #[γ 24]) (by simp only [putE, e12]; go_simp) ?_⟩⟩
          exact (of_any _ (γ 24) 71 (atL x0 x1 x4 ++ x5 ++ x6) wx p24 (by simp [atL, be32_len, HX5.out, HX6.out])).mono fun e w2 ⟨h1, h2⟩ => ⟨_, h1, congrArg dgV HAb2.out, h2⟩
        · obtain ⟨h12, h18, h25⟩ := h
          have e12 : γ 12 = .bool false := h12
          have e18 : γ 18 = dgV ab := h18
          have e25 : γ 25 = dgV ab := h25
          refine ⟨_, rfl, Or.inl ⟨(by simp only [putE, e12, e18, e25]; first | kernel_rfl | rfl), predRun_value (v := .bool false) (by simp only [putE, e12, e18, e25]; have hq : ∀ w, (binOp .neq 33 (dgV ab) (dgV ab)).run Tryd.prog w = .ok (.bool false) w := fun w => neq50 (p := ab) HL_ab.out.2 HL_ab.out.1 w; have hg := neg50; first | (go_simp; done) | (go_simp; with_reducible rfl)) rfl⟩⟩
        · obtain ⟨h12, h26⟩ := h
          have e12 : γ 12 = .bool false := h12
          have e26 : γ 26 = .bool false := h26
          refine ⟨_, rfl, Or.inl ⟨rfl, predRun_value (v := .bool false) (by simp only [putE, e12, e26]; first | rfl | (go_simp; done) | (go_simp; with_reducible rfl) | (go_simp; rfl)) rfl⟩⟩
      · intro γ w9 hS h
        have e27 : γ 27 = .bool false := h.2.2.2.2.2.2.2.2.2.2.2.2.2.2.2.2.2.2.2.2.2.2.2.2.2.2.2
        have R5_l := Kp.mk hS.1
        have R5_r := Kp.mk hS.2.1
        have R5_g3 := Kp.mk hS.2.2.1
        have R5_g4 := Kp.mk hS.2.2.2.1
        have Y5 := Kp.mk hS.2.2.2.2.1
        have B5 := Kp.mk hS.2.2.2.2.2.2
        simp only [putE, Act.put, List.setIfInBounds_toArray, List.set_cons_zero, List.set_cons_succ]
        rw [e27]
        clear h hS e27 B4 HM4 HWB4 R4_l R4_r R4_g3 R4_g4 hb4_l hb4_r hb4_g3 hb4_g4 Y4
        refine wpOps_done ?_
        obtain ⟨L2, hL2⟩ : ∃ l, l = x6 ++ s := ⟨_, rfl⟩
        have HLL : Kp (L2.length = 2 * 16 ∧ Bytes L2) := ⟨by rw [hL2]; exact ⟨by rw [List.length_append, HX6.out, HL_s.out.1], HB6.out.append HL_s.out.2⟩⟩
        have HBd : Kp (∀ w, (Instr.buildSlice 65 2 #[(0, dgV x6), (1, dgV s)]).run Tryd.prog w = .ok (.slice (some ⟨w.heap.size, 0, none⟩) 2 2) (w.alloc (.cells (kv .u8 L2).toArray 32))) := ⟨fun w => by rw [hL2]; exact build65_2 HX6.out HL_s.out.1 w⟩
        clear hL2
        go_wp2_with first
          | (refine wpList_load_row rfl 32 (.tmp 14) rfl (A + 1) rfl 32 _ (0, 0) _ R5_r.out Tryd.underlying32 rfl (cells49 HX6.out) ?_)
          | (refine wpList_load_row rfl 32 (.tmp 19) rfl (g4) rfl 32 _ (0, 0) _ R5_g4.out Tryd.underlying32 rfl (cells49 HL_s.out.1) ?_)
          | (refine wpList_buildSlice_two rfl 65 2 (.tmp 77) (.tmp 78) rfl (dgV x6) (dgV s) rfl rfl _ _ (HBd.out _) ?_)
        obtain ⟨g7, hg7⟩ : ∃ g, g = w9.heap.size := ⟨_, rfl⟩
        rw [← hg7]
        refine wp_world (fun W => Row W A 32 .u8 x5 ∧ Row W g7 32 .u8 L2 ∧ (HoldsS W (.slice a7 len7 cap7) len7 z7) ∧ Below A w W) ⟨Row.alloc R5_l.out _, Blk.newAt _ hg7, Y5.out.keep (more (Below.refl _ _) _), B5.out.alloc (Nat.le_of_lt R5_l.out.lt) _⟩ ?_
        have hA7 : A < g7 := by rw [hg7]; exact R5_l.out.lt
        clear R5_l R5_r R5_g3 R5_g4 Y5 B5 hg7 HBd
        rintro W7 ⟨k1, k2, k3, k4⟩
        have R7_l := Kp.mk k1
        have R7_g := Kp.mk k2
        have Y7 := Kp.mk k3
        have B7 := Kp.mk k4
        clear k1 k2 k3 k4
        go_loopw [23, 81] (fun _ c wr => ∃ k : Nat, k ≤ 2 ∧ c = .int .i64 k ∧ Kp (Row wr A 32 .u8 x5) ∧ Kp (Row wr g7 32 .u8 L2) ∧ Kp (HoldsS wr (.slice a7 len7 cap7) len7 z7) ∧ Kp (Below A w wr)) (fun _ c _ => 2 - (intOf c).toNat)
        case atStart => exact ⟨0, by omega, rfl, R7_l, R7_g, Y7, B7⟩
        case round =>
          obtain ⟨k, hk, rfl, E_l, E_g, E_Y, E_B⟩ := hrel
          clear R7_l R7_g Y7 B7
          by_cases hlt : k < 2
          · obtain ⟨z, hz⟩ : ∃ z, z = segL L2 k := ⟨_, rfl⟩
            have HL_z : Kp (z.length = 16 ∧ Bytes z) := ⟨by rw [hz]; exact ⟨segL_len HLL.out.1 hlt, HLL.out.2.seg k⟩⟩
            have HR : Kp (wr.rangeAt g7 (k * 16) (kv .u8 z)) := ⟨by rw [hz]; exact E_g.out.mid (o := k * 16) (n := 16) (by have := HLL.out.1; omega)⟩
            have hAE : A < wr.heap.size := E_l.out.lt
            clear hz
            obtain ⟨W8, hW8⟩ : ∃ W2, W2 = (wr.alloc z49).setRow wr.heap.size (kv .u8 z).toArray := ⟨_, rfl⟩
            have hb8 : Below wr.heap.size wr W8 := by rw [hW8]; exact Below.row (more (Below.refl _ _) z49) (Nat.le_refl _) _
            have R8_l := Kp.mk (E_l.out.keep hb8)
            have R8_g := Kp.mk (E_g.out.keep hb8)
            have Y8 := Kp.mk (E_Y.out.keep hb8)
            have B8 : Kp (Below A w W8) := ⟨E_B.out.trans (hb8.mono (Nat.le_of_lt E_l.out.lt))⟩
            have R8_z : Kp (Row W8 wr.heap.size 32 .u8 z) := ⟨by rw [hW8]; exact Row.setRow (k := .u8) (l := fill 16 []) (Blk.new wr z49) _⟩
            have hlk : k < 2 := hlt
            clear hb8 E_l E_g E_Y E_B
            go_wp2_with first
              | (refine wpList_load_mid rfl 32 (.tmp 83) rfl g7 (k * 16) rfl (kv .u8 z) _ HR.out Tryd.underlying32 rfl (cellsL32 HL_z.out.1) ?_)
              | (refine wpList_store_row rfl 32 (.tmp 23) (.tmp 84) rfl wr.heap.size (kv .u8 z).toArray rfl rfl 32 _ (Blk.new wr z49) (cells49 HL_z.out.1) (size50 HL_z.out.1) (kv_all _ _) ?_; refine wpl_world (· = W8) hW8.symm ?_; clear hW8; intro W0 e0; rw [e0]; clear e0)
            obtain ⟨g8, hg8⟩ : ∃ g, g = wr.heap.size := ⟨_, rfl⟩
            rw [← hg8] at R8_z
            rw [← hg8]
            clear hg8 HR hAE
            obtain ⟨c, hc⟩ : ∃ c, c = checkB x0 x1 x3 z x2 x5 z7 len7 := ⟨_, rfl⟩
            have HCc := Kp.mk hc
            clear hc
            refine wp_region_pred (fun w' => Row w' (A) 32 .u8 x5 ∧ Row w' (g7) 32 .u8 L2 ∧ Row w' (g8) 32 .u8 z ∧ HoldsS w' (.slice a7 len7 cap7) len7 z7 ∧ Below A w w') [0, 1, 2, 3, 4, 5, 6, 7, 8, 9, 10, 11, 12, 13, 14, 15, 16, 17] []
              (fun ι w' v => match ι with
                | 0 | 9 => v = .int .i64 x0
                | 1 | 10 => v = .int .u32 x1
                | 2 | 11 => v = .int .i64 x3
                | 3 | 12 => v = dgV z
                | 4 | 13 => v = .int .i64 x2
                | 5 | 14 => v = dgV x5
                | 6 | 15 => v = .slice a7 len7 cap7
                | 8 | 16 => v = .bool c
                | 17 => v = .bool false
                | 7 => HoldsS w' v len7 z7
                | _ => v = .bool true)
              [[], [], [], [], [], [], [], [(6, some 91)], [(0, some 85), (1, some 86), (2, some 87), (3, some 88), (4, some 89), (5, some 90), (7, some 92)], [], [], [], [], [], [], [], [(8, some 93), (9, some 94), (10, some 95), (11, some 96), (12, some 97), (13, some 98), (14, some 99), (15, some 100)], [(8, some 93), (16, some 101)]]
              [(0, some 85), (1, some 86), (2, some 87), (3, some 88), (4, some 89), (5, some 90), (6, some 91), (7, some 92), (8, some 93), (9, some 94), (10, some 95), (11, some 96), (12, some 97), (13, some 98), (14, some 99), (15, some 100), (16, some 101), (17, some 102)]
              (by kernel_rfl) (by kernel_rfl) (by kernel_rfl) (by kernel_rfl) (by kernel_rfl) (by kernel_rfl) (by decide) (by decide) (fun w1 w2 h hb => ⟨h.1.keep hb, h.2.1.keep hb, h.2.2.1.keep hb, h.2.2.2.1.keep hb, h.2.2.2.2.trans (hb.mono (Nat.le_of_lt h.1.lt))⟩) ?_ ⟨R8_l.out.drew, R8_g.out.drew, R8_z.out.drew, Y8.out.drew, B8.out.drew⟩ ?_ ?_
            · intro ι w1 w2 v h hb
              by_cases h7 : ι = 7
              · subst h7
                exact HoldsS.keep h hb
              match ι, h7, h with
              | 0, _, h => exact h
              | 1, _, h => exact h
              | 2, _, h => exact h
              | 3, _, h => exact h
              | 4, _, h => exact h
              | 5, _, h => exact h
              | 6, _, h => exact h
              | 7, g, h => exact absurd rfl g
              | 8, _, h => exact h
              | 9, _, h => exact h
              | 10, _, h => exact h
              | 11, _, h => exact h
              | 12, _, h => exact h
              | 13, _, h => exact h
              | 14, _, h => exact h
              | 15, _, h => exact h
              | 16, _, h => exact h
              | 17, _, h => exact h
              | _ + 18, _, h => exact h
            · refine ⟨fun γ wx hS h => ?_, fun γ wx hS h => ?_, fun γ wx hS h => ?_, fun γ wx hS h => ?_, fun γ wx hS h => ?_, fun γ wx hS h => ?_, fun γ wx hS h => ?_, fun γ wx hS h => ?_, fun γ wx hS h => ?_, fun γ wx hS h => ?_, fun γ wx hS h => ?_, fun γ wx hS h => ?_, fun γ wx hS h => ?_, fun γ wx hS h => ?_, fun γ wx hS h => ?_, fun γ wx hS h => ?_, fun γ wx hS h => ?_, fun γ wx hS h => ?_, trivial⟩
              · refine ⟨_, rfl, Or.inl ⟨rfl, predRun_value (v := .int .i64 x0) (by simp only [putE]; first | rfl | (go_simp; done) | (go_simp; with_reducible rfl) | (go_simp; rfl)) rfl⟩⟩
              · refine ⟨_, rfl, Or.inl ⟨rfl, predRun_value (v := .int .u32 x1) (by simp only [putE]; first | rfl | (go_simp; done) | (go_simp; with_reducible rfl) | (go_simp; rfl)) rfl⟩⟩
              · refine ⟨_, rfl, Or.inl ⟨rfl, predRun_value (v := .int .i64 x3) (by simp only [putE]; first | rfl | (go_simp; done) | (go_simp; with_reducible rfl) | (go_simp; rfl)) rfl⟩⟩
              · refine ⟨_, rfl, Or.inl ⟨rfl, predRun_value (exec_load_blk 32 (.tmp 23) rfl (g8) rfl 32 _ (0, 0) _ hS.2.2.1 Tryd.underlying32 rfl (cells49 HL_z.out.1)) rfl⟩⟩
              · refine ⟨_, rfl, Or.inl ⟨rfl, predRun_value (v := .int .i64 x2) (by simp only [putE]; first | rfl | (go_simp; done) | (go_simp; with_reducible rfl) | (go_simp; rfl)) rfl⟩⟩
              · refine ⟨_, rfl, Or.inl ⟨rfl, predRun_value (exec_load_blk 32 (.tmp 13) rfl (A) rfl 32 _ (0, 0) _ hS.1 Tryd.underlying32 rfl (cells49 HX5.out)) rfl⟩⟩
              · refine ⟨_, rfl, Or.inl ⟨rfl, predRun_value (v := .slice a7 len7 cap7) (by simp only [putE]; first | rfl | (go_simp; done) | (go_simp; with_reducible rfl) | (go_simp; rfl)) rfl⟩⟩
              · have h6 := h
                have e6 : γ 6 = .slice a7 len7 cap7 := h6
                refine ⟨_, rfl, Or.inl ⟨rfl, predRun_call (f := 47) (args := #[.slice a7 len7 cap7]) (by simp only [putE, e6]; go_simp) ?_⟩⟩
                refine (toS_any _ len7 z7 wx hS.2.2.2.1 HNs.out).mono ?_
                rintro e w2 ⟨v', h1, h2, h3⟩
                exact ⟨v', h1, HoldsS.ofRow HLb.out.2 (by have := HNs.out; unfold maxLen; omega) HLb.out.1 h2, h3⟩
              · obtain ⟨h0, h1, h2, h3, h4, h5, h7⟩ := h
                have e0 : γ 0 = .int .i64 x0 := h0
                have e1 : γ 1 = .int .u32 x1 := h1
                have e2 : γ 2 = .int .i64 x3 := h2
                have e3 : γ 3 = dgV z := h3
                have e4 : γ 4 = .int .i64 x2 := h4
                have e5 : γ 5 = dgV x5 := h5
                have p7 : HoldsS wx (γ 7) len7 z7 := h7
                obtain ⟨a9, c9, e9, -⟩ := id p7
                refine ⟨_, rfl, Or.inl ⟨rfl, predRun_call (f := 72) (args := #[.int .i64 x0, .int .u32 x1, .int .i64 x3, dgV z, .int .i64 x2, dgV x5, .slice a9 len7 c9]) (by simp only [putE, e0, e1, e2, e3, e4, e5, e9]; go_simp) ?_⟩⟩
                rw [e9] at p7
                exact (check_any x0 x1 x3 x2 z x5 a9 len7 c9 z7 wx (HK.out.keep (by rw [← HA.out]; exact hS.2.2.2.2)) HE.out HL_z.out.1 HL_z.out.2 HX5.out HB5.out p7).mono fun e w2 ⟨h1, h2⟩ => ⟨_, h1, by show Value.bool _ = Value.bool c; rw [HCc.out], h2⟩
              · refine ⟨_, rfl, Or.inl ⟨rfl, predRun_value (v := .int .i64 x0) (by simp only [putE]; first | rfl | (go_simp; done) | (go_simp; with_reducible rfl) | (go_simp; rfl)) rfl⟩⟩
              · refine ⟨_, rfl, Or.inl ⟨rfl, predRun_value (v := .int .u32 x1) (by simp only [putE]; first | rfl | (go_simp; done) | (go_simp; with_reducible rfl) | (go_simp; rfl)) rfl⟩⟩
              · refine ⟨_, rfl, Or.inl ⟨rfl, predRun_value (v := .int .i64 x3) (by simp only [putE]; first | rfl | (go_simp; done) | (go_simp; with_reducible rfl) | (go_simp; rfl)) rfl⟩⟩
              · refine ⟨_, rfl, Or.inl ⟨rfl, predRun_value (exec_load_blk 32 (.tmp 23) rfl (g8) rfl 32 _ (0, 0) _ hS.2.2.1 Tryd.underlying32 rfl (cells49 HL_z.out.1)) rfl⟩⟩
              · refine ⟨_, rfl, Or.inl ⟨rfl, predRun_value (v := .int .i64 x2) (by simp only [putE]; first | rfl | (go_simp; done) | (go_simp; with_reducible rfl) | (go_simp; rfl)) rfl⟩⟩
              · refine ⟨_, rfl, Or.inl ⟨rfl, predRun_value (exec_load_blk 32 (.tmp 13) rfl (A) rfl 32 _ (0, 0) _ hS.1 Tryd.underlying32 rfl (cells49 HX5.out)) rfl⟩⟩
              · refine ⟨_, rfl, Or.inl ⟨rfl, predRun_value (v := .slice a7 len7 cap7) (by simp only [putE]; first | rfl | (go_simp; done) | (go_simp; with_reducible rfl) | (go_simp; rfl)) rfl⟩⟩
              · obtain ⟨h8, h9, h10, h11, h12, h13, h14, h15⟩ := h
                have e8 : γ 8 = .bool c := h8
                have e9 : γ 9 = .int .i64 x0 := h9
                have e10 : γ 10 = .int .u32 x1 := h10
                have e11 : γ 11 = .int .i64 x3 := h11
                have e12 : γ 12 = dgV z := h12
                have e13 : γ 13 = .int .i64 x2 := h13
                have e14 : γ 14 = dgV x5 := h14
                have e15 : γ 15 = .slice a7 len7 cap7 := h15
                refine ⟨_, rfl, Or.inl ⟨rfl, predRun_call (f := 73) (args := #[.int .i64 x0, .int .u32 x1, .int .i64 x3, dgV z, .int .i64 x2, dgV x5, .slice a7 len7 cap7]) (by simp only [putE, e8, e9, e10, e11, e12, e13, e14, e15]; go_simp) ?_⟩⟩
                exact (rcheck_any x0 x1 x3 x2 z x5 a7 len7 cap7 z7 wx HE.out HL_z.out.1 HL_z.out.2 HX5.out HB5.out hS.2.2.2.1).mono fun e w2 ⟨h1, h2⟩ => ⟨_, h1, by show Value.bool _ = Value.bool c; rw [HCc.out], h2⟩
              · obtain ⟨h8, h16⟩ := h
                have e8 : γ 8 = .bool c := h8
                have e16 : γ 16 = .bool c := h16
                refine ⟨_, rfl, Or.inl ⟨rfl, predRun_value (v := .bool false) (by simp only [putE, e8, e16]; clear HCc; cases c <;> first | rfl | (go_simp; done) | (go_simp; with_reducible rfl) | (go_simp; rfl)) rfl⟩⟩
            · intro γ w9 hS h
              have e17 : γ 17 = .bool false := h.2.2.2.2.2.2.2.2.2.2.2.2.2.2.2.2.2
              have E_l := Kp.mk hS.1
              have E_g := Kp.mk hS.2.1
              have E_Y := Kp.mk hS.2.2.2.1
              have E_B := Kp.mk hS.2.2.2.2
              simp only [putE, Act.put, List.setIfInBounds_toArray, List.set_cons_zero, List.set_cons_succ]
              rw [e17]
              clear h hS e17 R8_l R8_g R8_z Y8 B8
              refine wpOps_done ?_
              go_wp2_with fail
              exact ⟨⟨k + 1, by omega, by go_num, E_l, E_g, E_Y, E_B⟩, by simp [intOf]; omega⟩
          · have hge : ¬ (k : Int) < 2 := by omega
            go_wp2_with fail
            go_ret
            exact ⟨rfl, by rw [← HA.out]; exact E_B.out⟩
end Go.Proofs.YtahmioiefmheeaaDoor
