/-
  The law LadderClimbs, walked.
-/
import Derived.Test.YtahmioiefmheeaaDoorGf17
namespace Go.Proofs.YtahmioiefmheeaaDoor
open Go.RowKit

/-- As wpList_load_row, of a guarded operation that is wanted. -/
theorem wpList_load_rowG {P : Program} {ops : Array Oper} {rest : List Oper} {o : Oper} {a : Act} {w : World} {Q : Exit → Act → World → Prop} (hw : Region.wanted o (yielded ops a.tmps) = true) (ty : TypeId) (x : Operand) (ho : o.op = .load ty x)
    (g : Nat) (hx : a.eval x = .pointer (some ⟨g, 0, none⟩)) (t : TypeId) (cs : Array Value) (fr : Nat × Nat) (d : TypeDesc) (hg : w.heap[g]? = some (.cells cs t fr))
    (hu : P.underlying ty = some d) (hd : (match d with | .struct _ | .array _ _ => true | _ => false) = true) (hi : (P.info? ty).map (·.size) = some cs.size)
    (h : wpList P ops Q rest (a.put o.dst (.agg cs)) w) : wpList P ops Q (o :: rest) a w := by
  unfold wpList
  rw [if_pos hw]
  exact .inl (wp_load_row ty x ho g hx t cs fr d hg hu hd hi h)
theorem wp_assign_endD {P : Program} {o : Oper} {a : Act} {w : World} {K : Act → World → Prop} {Q : Exit → Act → World → Prop} {d : Option Tmp} {x : Operand} {v : Value} (hd : o.dst = d) (ho : o.op = .assign x) (hx : a.eval x = v) (h : K (a.put d v) w) : o.wp P a w K Q := by
  subst hd
  exact wp_assign_end ho hx h
theorem wp_store_rowD {P : Program} {o : Oper} {a : Act} {w : World} {K : Act → World → Prop} {Q : Exit → Act → World → Prop} (hd : o.dst = none) (ty : TypeId) (x y : Operand) (ho : o.op = .store ty x y)
    (g : Nat) (cells : Array Value) (hx : a.eval x = .pointer (some ⟨g, 0, none⟩)) (hy : a.eval y = .agg cells) (t : TypeId) (cs : Array Value) (hg : w.heap[g]? = some (.cells cs t (0, 0)))
    (hi : (P.info? ty).map (·.size) = some cells.size) (hs : cs.size = cells.size) (h1 : cells.all (·.oneCell') = true) (h : K a (w.setRow g cells)) : o.wp P a w K Q := by
  refine wp_store_row ty x y ho g cells hx hy t cs hg hi hs h1 ?_
  rw [hd]
  exact h
theorem neq50 {p : List Int} (hb : Bytes p) (h : p.length = 16) (w : World) : (binOp .neq 33 (dgV p) (dgV p)).run Tryd.prog w = .ok (.bool false) w := by
  rw [run_neq_struct, eqIn50 hb h]; rfl
theorem neg50 (p q : List Int) (x y : Operand) (w : World) : (eqGuard .neq 33 x y (dgV p) (dgV q)).run Tryd.prog w = .ok () w := by kernel_rfl
set_option maxRecDepth 100000 in
set_option maxHeartbeats 4000000 in
theorem ladderClimbs_walk (x0_0 x0_1 x0_2 : Int) (x1 : List Int) (x2 x3 x4 x5 : Int) (w : World) (_w0_0 : (Lit.int .i64 x0_0).wf = true) (w0_1 : (Lit.int .u32 x0_1).wf = true) (w0_2 : (Lit.int .u32 x0_2).wf = true) (l1 : x1.length = 16) (b1 : Bytes x1) (_w2 : (Lit.int .i64 x2).wf = true) (_w3 : (Lit.int .i64 x3).wf = true) (_w4 : (Lit.int .i64 x4).wf = true) (_w5 : (Lit.int .i64 x5).wf = true) (hk : KonIs w) :
    Calls Tryd.prog 8 #[plV x0_0 x0_1 x0_2, dgV x1, .int .i64 x2, .int .i64 x3, .int .i64 x4, .int .i64 x5] w fun e w' => e = .returned (.bool true) ∧ Below w.heap.size w w' := by
  have HE := Kp.mk (u32_wf w0_1)
  have HS := Kp.mk (u32_wf w0_2)
  have HX := Kp.mk l1
  have HXB := Kp.mk b1
  have HK := Kp.mk hk
  clear _w0_0 w0_1 w0_2 _w2 _w3 _w4 _w5 l1 b1 hk
  obtain ⟨z1, hz1⟩ : ∃ z, z = climbS x0_0 x0_1 x0_2 x1 x2 x4 x5 := ⟨_, rfl⟩
  obtain ⟨q1, hq1⟩ : ∃ q, q = climbF x2 x4 x5 := ⟨_, rfl⟩
  obtain ⟨z5, hz5⟩ : ∃ z, z = climbS x0_0 x0_1 x0_2 x1 x2 x3 x5 := ⟨_, rfl⟩
  obtain ⟨q5, hq5⟩ : ∃ q, q = climbF x2 x3 x5 := ⟨_, rfl⟩
  obtain ⟨z6, hz6⟩ : ∃ z, z = climbS x0_0 x0_1 x0_2 z5 x3 x4 x5 := ⟨_, rfl⟩
  obtain ⟨q6, hq6⟩ : ∃ q, q = climbF x3 x4 x5 := ⟨_, rfl⟩
  have HZ1l : Kp (z1.length = 16 ∧ Bytes z1) := ⟨by rw [hz1]; exact ⟨climbS_len _ _ _ _ _ _ _ HX.out, climbS_bytes _ _ _ _ _ _ _ HXB.out⟩⟩
  have HZ5l : Kp (z5.length = 16 ∧ Bytes z5) := ⟨by rw [hz5]; exact ⟨climbS_len _ _ _ _ _ _ _ HX.out, climbS_bytes _ _ _ _ _ _ _ HXB.out⟩⟩
  have HZ6l : Kp (z6.length = 16 ∧ Bytes z6) := ⟨by rw [hz6]; exact ⟨climbS_len _ _ _ _ _ _ _ HZ5l.out.1, climbS_bytes _ _ _ _ _ _ _ HZ5l.out.2⟩⟩
  have HZ1 := Kp.mk (And.intro hz1 hq1)
  have HZ5 := Kp.mk (And.intro hz5 hq5)
  have HZ6 := Kp.mk (And.intro hz6 hq6)
  have HQ1 : Kp (∀ w, (binOp .neq 33 (dgV z1) (dgV z1)).run Tryd.prog w = .ok (.bool false) w) := ⟨fun w => neq50 (p := z1) HZ1l.out.2 HZ1l.out.1 w⟩
  have HQE : Kp (∀ w, (binOp .eql 33 (dgV z1) (dgV z1)).run Tryd.prog w = .ok (.bool true) w) := ⟨fun w => eql50 (p := z1) HZ1l.out.2 HZ1l.out.1 w⟩
  clear hz1 hq1 hz5 hq5 hz6 hq6
  obtain ⟨A, hA⟩ : ∃ A, A = w.heap.size := ⟨_, rfl⟩
  have HA := Kp.mk hA
  go_enter Tryd.func8, Tryd.ntmps8
  go_wp2_with fail
  rw [← hA]
  refine wp_world (fun W => Blk W A (.cells #[.int .i64 x0_0, .int .u32 x0_1, .int .u32 x0_2] 48) ∧ Row W (A + 1) 32 .u8 x1 ∧ Below A w W) ⟨Blk.old (Blk.newAt _ hA) _, Blk.newAt _ (by simp [hA]), by rw [hA]; exact more (more (Below.refl _ _) _) _⟩ ?_
  clear hA
  rintro W1 ⟨g1, g2, g4⟩
  have P1 := Kp.mk g1
  have R1_e := Kp.mk g2
  have B1 := Kp.mk g4
  clear g1 g2 g4
  obtain ⟨M1, hM⟩ : ∃ M, M = W1.heap.size := ⟨_, rfl⟩
  have hbA : A < M1 := by rw [hM]; exact P1.out.lt
  have hb1_e : A + 1 < M1 := by rw [hM]; exact R1_e.out.lt
  have HM1 : Kp (M1 ≤ W1.heap.size) := ⟨Nat.le_of_eq hM⟩
  clear hM
  refine wp_region_predQ (fun w' => Blk w' A (.cells #[.int .i64 x0_0, .int .u32 x0_1, .int .u32 x0_2] 48) ∧ Row w' (A + 1) 32 .u8 x1 ∧ M1 ≤ w'.heap.size ∧ Below A w w') [0, 1, 2, 3, 4, 5, 6, 7, 8, 9, 10] [9] [11, 12]
    (fun ι w' v => match ι with
      | 0 | 1 => v = plV x0_0 x0_1 x0_2
      | 2 => v = dgV x1
      | 3 => v = .int .i64 x2
      | 4 => v = .int .i64 x4
      | 5 => v = .int .i64 x5
      | 6 | 7 => v = .tuple #[dgV z1, .int .i64 q1]
      | 8 => v = dgV z1
      | 9 => v = .int .i64 q1
      | 10 => ∃ g, v = .pointer (some ⟨g, 0, none⟩) ∧ M1 ≤ g ∧ Row w' g 33 .u8 (fill 16 [])
      | _ => v = .bool true)
    [[], [(0, some 22)], [], [], [], [], [(1, some 23), (2, some 24), (3, some 25), (4, some 26), (5, some 27)], [(6, some 28)], [(7, some 21)], [(7, some 21)], []]
    [[(7, some 21)]]
    [(0, some 22), (1, some 23), (2, some 24), (3, some 25), (4, some 26), (5, some 27), (6, some 28), (7, some 21), (8, some 29), (9, some 30), (10, some 13)]
    (by kernel_rfl) (by kernel_rfl) (by kernel_rfl) (by kernel_rfl) (by kernel_rfl) (by kernel_rfl) (by kernel_rfl) (by decide) (by decide) (fun w1 w2 h hb => ⟨h.1.keep hb, h.2.1.keep hb, Nat.le_trans h.2.2.1 hb.size, h.2.2.2.trans (hb.mono (Nat.le_of_lt h.1.lt))⟩) (fun c a w d v h => by cases d <;> exact h) ?_ ⟨P1.out.draw, R1_e.out.drew, HM1.out, B1.out.drew⟩ ?_ ?_ ?_
  · intro ι w1 w2 v h hb
    by_cases h10 : ι = 10
    · subst h10
      exact (by obtain ⟨g, e, h1, hg⟩ := h; exact ⟨g, e, h1, hg.keep hb⟩)
    match ι, h10, h with
    | 0, _, h => exact h
    | 1, _, h => exact h
    | 2, _, h => exact h
    | 3, _, h => exact h
    | 4, _, h => exact h
    | 5, _, h => exact h
    | 6, _, h => exact h
    | 7, _, h => exact h
    | 8, _, h => exact h
    | 9, _, h => exact h
    | 10, g, h => exact absurd rfl g
    | _ + 11, _, h => exact h
  · refine ⟨fun γ wx hS h => ?_, fun γ wx hS h => ?_, fun γ wx hS h => ?_, fun γ wx hS h => ?_, fun γ wx hS h => ?_, fun γ wx hS h => ?_, fun γ wx hS h => ?_, fun γ wx hS h => ?_, fun γ wx hS h => ?_, fun γ wx hS h => ?_, fun γ wx hS h => ?_, trivial⟩
    · refine ⟨_, rfl, Or.inl ⟨rfl, predRun_value (exec_load_blk 48 (.tmp 6) rfl (A) rfl 48 _ (0, 0) _ hS.1 Tryd.underlying48 rfl (cells48 x0_0 x0_1 x0_2)) rfl⟩⟩
    · have h0 := h
      have e0 : γ 0 = plV x0_0 x0_1 x0_2 := h0
      refine ⟨_, rfl, Or.inl ⟨rfl, predRun_call (f := 32) (args := #[plV x0_0 x0_1 x0_2]) (by simp only [putE, e0]; go_simp) ?_⟩⟩
      exact (to_any x0_0 x0_1 x0_2 wx).mono fun e w2 ⟨h1, h2⟩ => ⟨_, h1, rfl, h2⟩
    · refine ⟨_, rfl, Or.inl ⟨rfl, predRun_value (exec_load_blk 32 (.tmp 7) rfl (A + 1) rfl 32 _ (0, 0) _ hS.2.1 Tryd.underlying32 rfl (cells49 HX.out)) rfl⟩⟩
    · refine ⟨_, rfl, Or.inl ⟨rfl, predRun_value (v := .int .i64 x2) (by simp only [putE]; first | rfl | (go_simp; done) | (go_simp; with_reducible rfl) | (go_simp; rfl)) rfl⟩⟩
    · refine ⟨_, rfl, Or.inl ⟨rfl, predRun_value (v := .int .i64 x4) (by simp only [putE]; first | rfl | (go_simp; done) | (go_simp; with_reducible rfl) | (go_simp; rfl)) rfl⟩⟩
    · refine ⟨_, rfl, Or.inl ⟨rfl, predRun_value (v := .int .i64 x5) (by simp only [putE]; first | rfl | (go_simp; done) | (go_simp; with_reducible rfl) | (go_simp; rfl)) rfl⟩⟩
    · obtain ⟨h1, h2, h3, h4, h5⟩ := h
      have e1 : γ 1 = plV x0_0 x0_1 x0_2 := h1
      have e2 : γ 2 = dgV x1 := h2
      have e3 : γ 3 = .int .i64 x2 := h3
      have e4 : γ 4 = .int .i64 x4 := h4
      have e5 : γ 5 = .int .i64 x5 := h5
      refine ⟨_, rfl, Or.inl ⟨rfl, predRun_call (f := 42) (args := #[plV x0_0 x0_1 x0_2, dgV x1, .int .i64 x2, .int .i64 x4, .int .i64 x5]) (by simp only [putE, e1, e2, e3, e4, e5]; go_simp) ?_⟩⟩
      exact (climb_any x0_0 x0_1 x0_2 x1 x2 x4 x5 wx (HK.out.keep (by rw [← HA.out]; exact hS.2.2.2)) HE.out HS.out HX.out HXB.out).mono fun e w2 ⟨h1, h2⟩ => ⟨_, h1, by show Value.tuple _ = Value.tuple _; rw [HZ1.out.1, HZ1.out.2], h2⟩
    · have h6 := h
      have e6 : γ 6 = .tuple #[dgV z1, .int .i64 q1] := h6
      refine ⟨_, rfl, Or.inl ⟨rfl, predRun_value (v := .tuple #[dgV z1, .int .i64 q1]) (by simp only [putE, e6]; first | rfl | (go_simp; done) | (go_simp; with_reducible rfl) | (go_simp; rfl)) rfl⟩⟩
    · have h7 := h
      have e7 : γ 7 = .tuple #[dgV z1, .int .i64 q1] := h7
      refine ⟨_, rfl, Or.inl ⟨rfl, predRun_value (v := dgV z1) (by simp only [putE, e7]; first | rfl | (go_simp; done) | (go_simp; with_reducible rfl) | (go_simp; rfl)) rfl⟩⟩
    · have h7 := h
      have e7 : γ 7 = .tuple #[dgV z1, .int .i64 q1] := h7
      refine ⟨_, rfl, Or.inl ⟨rfl, predRun_value (v := .int .i64 q1) (by simp only [putE, e7]; first | rfl | (go_simp; done) | (go_simp; with_reducible rfl) | (go_simp; rfl)) rfl⟩⟩
    · refine ⟨_, rfl, Or.inl ⟨rfl, predRun_new (w' := wx.alloc z50) (v := .pointer (some ⟨wx.heap.size, 0, none⟩)) (by simp only [putE]; first | rfl | (go_simp; done) | (go_simp; rfl)) (more (Below.refl _ _) _) ⟨_, rfl, hS.2.2.1, Blk.new _ _⟩⟩⟩
  · refine ⟨fun γ wx hS h => ?_, trivial⟩
    · have h7 := h
      have e7 : γ 7 = .tuple #[dgV z1, .int .i64 q1] := h7
      refine ⟨_, .int .i64 q1, rfl, Or.inl ⟨rfl, fun wz => by simp only [putE, e7]; first | rfl | (go_simp; done) | (go_simp; rfl)⟩, rfl⟩
  · intro γ w9 hS h
    have e8 : γ 8 = dgV z1 := h.2.2.2.2.2.2.2.2.1
    have e9 : γ 9 = .int .i64 q1 := h.2.2.2.2.2.2.2.2.2.1
    obtain ⟨g1, e10, hMg, hg⟩ : ∃ g, γ 10 = .pointer (some ⟨g, 0, none⟩) ∧ M1 ≤ g ∧ Row w9 g 33 .u8 (fill 16 []) := h.2.2.2.2.2.2.2.2.2.2
    simp only [putE, Act.put, List.setIfInBounds_toArray, List.set_cons_zero, List.set_cons_succ]
    rw [e8, e9, e10]
    have HGA : Kp (Row w9 g1 33 .u8 (fill 16 [])) := ⟨hg⟩
    obtain ⟨W2, hW9⟩ : ∃ W, W = w9.setRow g1 (kv .u8 z1).toArray := ⟨_, rfl⟩
    have P2 : Kp (Blk W2 A (.cells #[.int .i64 x0_0, .int .u32 x0_1, .int .u32 x0_2] 48)) := ⟨by rw [hW9]; exact (setRow_other _ g1 A _ (by omega)).trans hS.1⟩
    have R2_e : Kp (Row W2 (A + 1) 32 .u8 x1) := ⟨by rw [hW9]; exact Row.otherRow hS.2.1 (by omega) _⟩
    have R2_g1 : Kp (Row W2 (g1) 33 .u8 z1) := ⟨by rw [hW9]; exact HGA.out.setRow z1⟩
    have B2 : Kp (Below A w W2) := ⟨by rw [hW9]; exact Below.row hS.2.2.2 (by omega) _⟩
    have HWk := Kp.mk hW9
    clear h hS e8 e9 e10 hg hW9 P1 B1 HM1 hMg R1_e hb1_e
    refine wpOps_step rfl rfl ?_
    refine wp_store_rowD rfl 33 (.tmp 13) (.tmp 29) rfl g1 (kv .u8 z1).toArray rfl rfl 33 _ HGA.out (cells50 HZ1l.out.1) (size50 HZ1l.out.1) (kv_all _ _) ?_
    rw [← HWk.out]
    clear HWk HGA
    refine wpOps_step rfl rfl ?_
    refine wp_assign_endD (d := some 14) (v := .int .i64 q1) rfl rfl rfl ?_
    simp only [Act.put, List.setIfInBounds_toArray, List.set_cons_zero, List.set_cons_succ]
    refine wpOps_done ?_
    go_wp2_with first
      | (refine wpList_load_row rfl 48 (.tmp 6) rfl A rfl 48 _ (0, 0) _ P2.out Tryd.underlying48 rfl (cells48 x0_0 x0_1 x0_2) ?_)
      | (refine wpList_load_row rfl 32 (.tmp 7) rfl (A + 1) rfl 32 _ (0, 0) _ R2_e.out Tryd.underlying32 rfl (cells49 HX.out) ?_)
    refine (rclimb_any x0_0 x0_1 x0_2 x1 x2 x4 x5 W2 HE.out HS.out HX.out HXB.out).mono ?_
    rintro r w10 ⟨rfl, hb⟩
    rw [← HZ1.out.1, ← HZ1.out.2]
    have E0 := Kp.mk (P2.out.keep hb)
    have E_e := Kp.mk (R2_e.out.keep hb)
    have E_g1 := Kp.mk (R2_g1.out.keep hb)
    have EB : Kp (Below A w w10) := ⟨B2.out.trans (hb.mono (Nat.le_of_lt P2.out.lt))⟩
    clear hb P2 B2 R2_e R2_g1
    obtain ⟨B, hB⟩ : ∃ B, B = w10.heap.size := ⟨_, rfl⟩
    have hbA : A < B := by rw [hB]; exact E0.out.lt
    have hbb_e : A + 1 < B := by rw [hB]; exact E_e.out.lt
    have hbb_g1 : g1 < B := by rw [hB]; exact E_g1.out.lt
    obtain ⟨W3, hW⟩ : ∃ W, W = (w10.alloc z49).setRow B (kv .u8 z1).toArray := ⟨_, rfl⟩
    have hN : Row (w10.alloc z49) B 32 .u8 (fill 16 []) := Blk.newAt _ hB
    have P3 : Kp (Blk W3 A (.cells #[.int .i64 x0_0, .int .u32 x0_1, .int .u32 x0_2] 48)) := ⟨by rw [hW]; exact (setRow_other _ B A _ (by omega)).trans (Blk.old E0.out _)⟩
    have R3_e : Kp (Row W3 (A + 1) 32 .u8 x1) := ⟨by rw [hW]; exact Row.otherRow (Row.alloc E_e.out _) (by omega) _⟩
    have R3_g1 : Kp (Row W3 (g1) 33 .u8 z1) := ⟨by rw [hW]; exact Row.otherRow (Row.alloc E_g1.out _) (by omega) _⟩
    have R3_b : Kp (Row W3 (B) 32 .u8 z1) := ⟨by rw [hW]; exact Row.setRow (k := .u8) (l := fill 16 []) hN _⟩
    have B3 : Kp (Below A w W3) := ⟨by rw [hW]; exact Below.row (EB.out.alloc (by have := E0.out.lt; omega) _) (by omega) _⟩
    have HBe := Kp.mk hB
    have hW2 : W3 = (w10.alloc z49).setRow w10.heap.size (kv .u8 z1).toArray := by rw [hW, hB]
    clear hN hW hB E0 EB hbA E_e E_g1 hbb_e hbb_g1
    go_wp2_with (refine wpList_store_row rfl 32 (.tmp 15) (.tmp 38) rfl w10.heap.size (kv .u8 z1).toArray rfl rfl 32 _ (Blk.new w10 z49) (cells49 HZ1l.out.1) (size50 HZ1l.out.1) (kv_all _ _) ?_; refine wpl_world (· = W3) hW2.symm ?_; clear hW2; intro W0 e0; rw [e0]; clear e0)
    rw [← HBe.out]
    clear HBe
    refine (awake6 W3 (HK.out.keep (by rw [← HA.out]; exact B3.out))).mono ?_
    rintro r W4 ⟨rfl, hb⟩
    have P4 := Kp.mk (P3.out.keep hb)
    have R4_e := Kp.mk (R3_e.out.keep hb)
    have R4_g1 := Kp.mk (R3_g1.out.keep hb)
    have R4_b := Kp.mk (R3_b.out.keep hb)
    have B4 : Kp (Below A w W4) := ⟨B3.out.trans (hb.mono (Nat.le_of_lt P3.out.lt))⟩
    clear hb P3 B3 R3_e R3_g1 R3_b
    have tq : (q1 != q1) = false := by simp
    have hq := HQ1.out
    have hg := neg50
    go_wp2_with first
      | (refine wpList_load_rowG rfl 33 (.tmp 13) rfl g1 rfl 33 _ (0, 0) _ R4_g1.out Tryd.underlying33 rfl (cells50 HZ1l.out.1) ?_)
      | (refine wpList_load_rowG rfl 32 (.tmp 15) rfl B rfl 32 _ (0, 0) _ R4_b.out Tryd.underlying32 rfl (cells49 HZ1l.out.1) ?_)
    clear tq hq hg R4_b
    obtain ⟨M4, hM⟩ : ∃ M, M = W4.heap.size := ⟨_, rfl⟩
    have hbA : A < M4 := by rw [hM]; exact P4.out.lt
    have hb4_e : A + 1 < M4 := by rw [hM]; exact R4_e.out.lt
    have hb4_g1 : g1 < M4 := by rw [hM]; exact R4_g1.out.lt
    have HM4 : Kp (M4 ≤ W4.heap.size) := ⟨Nat.le_of_eq hM⟩
    clear hM
    refine wp_region_predQ (fun w' => Blk w' A (.cells #[.int .i64 x0_0, .int .u32 x0_1, .int .u32 x0_2] 48) ∧ Row w' (A + 1) 32 .u8 x1 ∧ Row w' (g1) 33 .u8 z1 ∧ M4 ≤ w'.heap.size ∧ Below A w w') [0, 1, 2, 3, 4, 5, 6, 7, 8, 9, 10] [9] [11, 12]
      (fun ι w' v => match ι with
        | 0 | 1 => v = plV x0_0 x0_1 x0_2
        | 2 => v = dgV x1
        | 3 => v = .int .i64 x2
        | 4 => v = .int .i64 x3
        | 5 => v = .int .i64 x5
        | 6 | 7 => v = .tuple #[dgV z5, .int .i64 q5]
        | 8 => v = dgV z5
        | 9 => v = .int .i64 q5
        | 10 => ∃ g, v = .pointer (some ⟨g, 0, none⟩) ∧ M4 ≤ g ∧ Row w' g 33 .u8 (fill 16 [])
        | _ => v = .bool true)
      [[], [(0, some 53)], [], [], [], [], [(1, some 54), (2, some 55), (3, some 56), (4, some 57), (5, some 58)], [(6, some 59)], [(7, some 52)], [(7, some 52)], []]
      [[(7, some 52)]]
      [(0, some 53), (1, some 54), (2, some 55), (3, some 56), (4, some 57), (5, some 58), (6, some 59), (7, some 52), (8, some 60), (9, some 61), (10, some 17)]
      (by kernel_rfl) (by kernel_rfl) (by kernel_rfl) (by kernel_rfl) (by kernel_rfl) (by kernel_rfl) (by kernel_rfl) (by decide) (by decide) (fun w1 w2 h hb => ⟨h.1.keep hb, h.2.1.keep hb, h.2.2.1.keep hb, Nat.le_trans h.2.2.2.1 hb.size, h.2.2.2.2.trans (hb.mono (Nat.le_of_lt h.1.lt))⟩) (fun c a w d v h => by cases d <;> exact h) ?_ ⟨P4.out.draw, R4_e.out.drew, R4_g1.out.drew, HM4.out, B4.out.drew⟩ ?_ ?_ ?_
    · intro ι w1 w2 v h hb
      by_cases h10 : ι = 10
      · subst h10
        exact (by obtain ⟨g, e, h1, hg⟩ := h; exact ⟨g, e, h1, hg.keep hb⟩)
      match ι, h10, h with
      | 0, _, h => exact h
      | 1, _, h => exact h
      | 2, _, h => exact h
      | 3, _, h => exact h
      | 4, _, h => exact h
      | 5, _, h => exact h
      | 6, _, h => exact h
      | 7, _, h => exact h
      | 8, _, h => exact h
      | 9, _, h => exact h
      | 10, g, h => exact absurd rfl g
      | _ + 11, _, h => exact h
    · refine ⟨fun γ wx hS h => ?_, fun γ wx hS h => ?_, fun γ wx hS h => ?_, fun γ wx hS h => ?_, fun γ wx hS h => ?_, fun γ wx hS h => ?_, fun γ wx hS h => ?_, fun γ wx hS h => ?_, fun γ wx hS h => ?_, fun γ wx hS h => ?_, fun γ wx hS h => ?_, trivial⟩
      · refine ⟨_, rfl, Or.inl ⟨rfl, predRun_value (exec_load_blk 48 (.tmp 6) rfl (A) rfl 48 _ (0, 0) _ hS.1 Tryd.underlying48 rfl (cells48 x0_0 x0_1 x0_2)) rfl⟩⟩
      · have h0 := h
        have e0 : γ 0 = plV x0_0 x0_1 x0_2 := h0
        refine ⟨_, rfl, Or.inl ⟨rfl, predRun_call (f := 32) (args := #[plV x0_0 x0_1 x0_2]) (by simp only [putE, e0]; go_simp) ?_⟩⟩
        exact (to_any x0_0 x0_1 x0_2 wx).mono fun e w2 ⟨h1, h2⟩ => ⟨_, h1, rfl, h2⟩
      · refine ⟨_, rfl, Or.inl ⟨rfl, predRun_value (exec_load_blk 32 (.tmp 7) rfl (A + 1) rfl 32 _ (0, 0) _ hS.2.1 Tryd.underlying32 rfl (cells49 HX.out)) rfl⟩⟩
      · refine ⟨_, rfl, Or.inl ⟨rfl, predRun_value (v := .int .i64 x2) (by simp only [putE]; first | rfl | (go_simp; done) | (go_simp; with_reducible rfl) | (go_simp; rfl)) rfl⟩⟩
      · refine ⟨_, rfl, Or.inl ⟨rfl, predRun_value (v := .int .i64 x3) (by simp only [putE]; first | rfl | (go_simp; done) | (go_simp; with_reducible rfl) | (go_simp; rfl)) rfl⟩⟩
      · refine ⟨_, rfl, Or.inl ⟨rfl, predRun_value (v := .int .i64 x5) (by simp only [putE]; first | rfl | (go_simp; done) | (go_simp; with_reducible rfl) | (go_simp; rfl)) rfl⟩⟩
      · obtain ⟨h1, h2, h3, h4, h5⟩ := h
        have e1 : γ 1 = plV x0_0 x0_1 x0_2 := h1
        have e2 : γ 2 = dgV x1 := h2
        have e3 : γ 3 = .int .i64 x2 := h3
        have e4 : γ 4 = .int .i64 x3 := h4
        have e5 : γ 5 = .int .i64 x5 := h5
        refine ⟨_, rfl, Or.inl ⟨rfl, predRun_call (f := 42) (args := #[plV x0_0 x0_1 x0_2, dgV x1, .int .i64 x2, .int .i64 x3, .int .i64 x5]) (by simp only [putE, e1, e2, e3, e4, e5]; go_simp) ?_⟩⟩
        exact (climb_any x0_0 x0_1 x0_2 x1 x2 x3 x5 wx (HK.out.keep (by rw [← HA.out]; exact hS.2.2.2.2)) HE.out HS.out HX.out HXB.out).mono fun e w2 ⟨h1, h2⟩ => ⟨_, h1, by show Value.tuple _ = Value.tuple _; rw [HZ5.out.1, HZ5.out.2], h2⟩
      · have h6 := h
        have e6 : γ 6 = .tuple #[dgV z5, .int .i64 q5] := h6
        refine ⟨_, rfl, Or.inl ⟨rfl, predRun_value (v := .tuple #[dgV z5, .int .i64 q5]) (by simp only [putE, e6]; first | rfl | (go_simp; done) | (go_simp; with_reducible rfl) | (go_simp; rfl)) rfl⟩⟩
      · have h7 := h
        have e7 : γ 7 = .tuple #[dgV z5, .int .i64 q5] := h7
        refine ⟨_, rfl, Or.inl ⟨rfl, predRun_value (v := dgV z5) (by simp only [putE, e7]; first | rfl | (go_simp; done) | (go_simp; with_reducible rfl) | (go_simp; rfl)) rfl⟩⟩
      · have h7 := h
        have e7 : γ 7 = .tuple #[dgV z5, .int .i64 q5] := h7
        refine ⟨_, rfl, Or.inl ⟨rfl, predRun_value (v := .int .i64 q5) (by simp only [putE, e7]; first | rfl | (go_simp; done) | (go_simp; with_reducible rfl) | (go_simp; rfl)) rfl⟩⟩
      · refine ⟨_, rfl, Or.inl ⟨rfl, predRun_new (w' := wx.alloc z50) (v := .pointer (some ⟨wx.heap.size, 0, none⟩)) (by simp only [putE]; first | rfl | (go_simp; done) | (go_simp; rfl)) (more (Below.refl _ _) _) ⟨_, rfl, hS.2.2.2.1, Blk.new _ _⟩⟩⟩
    · refine ⟨fun γ wx hS h => ?_, trivial⟩
      · have h7 := h
        have e7 : γ 7 = .tuple #[dgV z5, .int .i64 q5] := h7
        refine ⟨_, .int .i64 q5, rfl, Or.inl ⟨rfl, fun wz => by simp only [putE, e7]; first | rfl | (go_simp; done) | (go_simp; rfl)⟩, rfl⟩
    · intro γ w9 hS h
      have e8 : γ 8 = dgV z5 := h.2.2.2.2.2.2.2.2.1
      have e9 : γ 9 = .int .i64 q5 := h.2.2.2.2.2.2.2.2.2.1
      obtain ⟨g5, e10, hMg, hg⟩ : ∃ g, γ 10 = .pointer (some ⟨g, 0, none⟩) ∧ M4 ≤ g ∧ Row w9 g 33 .u8 (fill 16 []) := h.2.2.2.2.2.2.2.2.2.2
      simp only [putE, Act.put, List.setIfInBounds_toArray, List.set_cons_zero, List.set_cons_succ]
      rw [e8, e9, e10]
      have HGA : Kp (Row w9 g5 33 .u8 (fill 16 [])) := ⟨hg⟩
      obtain ⟨W5, hW9⟩ : ∃ W, W = w9.setRow g5 (kv .u8 z5).toArray := ⟨_, rfl⟩
      have P5 : Kp (Blk W5 A (.cells #[.int .i64 x0_0, .int .u32 x0_1, .int .u32 x0_2] 48)) := ⟨by rw [hW9]; exact (setRow_other _ g5 A _ (by omega)).trans hS.1⟩
      have R5_e : Kp (Row W5 (A + 1) 32 .u8 x1) := ⟨by rw [hW9]; exact Row.otherRow hS.2.1 (by omega) _⟩
      have R5_g1 : Kp (Row W5 (g1) 33 .u8 z1) := ⟨by rw [hW9]; exact Row.otherRow hS.2.2.1 (by omega) _⟩
      have R5_g5 : Kp (Row W5 (g5) 33 .u8 z5) := ⟨by rw [hW9]; exact HGA.out.setRow z5⟩
      have B5 : Kp (Below A w W5) := ⟨by rw [hW9]; exact Below.row hS.2.2.2.2 (by omega) _⟩
      have HWk := Kp.mk hW9
      clear h hS e8 e9 e10 hg hW9 P4 B4 HM4 hMg R4_e hb4_e R4_g1 hb4_g1
      refine wpOps_step rfl rfl ?_
      refine wp_store_rowD rfl 33 (.tmp 17) (.tmp 60) rfl g5 (kv .u8 z5).toArray rfl rfl 33 _ HGA.out (cells50 HZ5l.out.1) (size50 HZ5l.out.1) (kv_all _ _) ?_
      rw [← HWk.out]
      clear HWk HGA
      refine wpOps_step rfl rfl ?_
      refine wp_assign_endD (d := some 18) (v := .int .i64 q5) rfl rfl rfl ?_
      simp only [Act.put, List.setIfInBounds_toArray, List.set_cons_zero, List.set_cons_succ]
      refine wpOps_done ?_
      obtain ⟨M5, hM⟩ : ∃ M, M = W5.heap.size := ⟨_, rfl⟩
      have hbA : A < M5 := by rw [hM]; exact P5.out.lt
      have hb5_e : A + 1 < M5 := by rw [hM]; exact R5_e.out.lt
      have hb5_g1 : g1 < M5 := by rw [hM]; exact R5_g1.out.lt
      have hb5_g5 : g5 < M5 := by rw [hM]; exact R5_g5.out.lt
      have HM5 : Kp (M5 ≤ W5.heap.size) := ⟨Nat.le_of_eq hM⟩
      clear hM
      go_wp2_with fail
      refine wp_region_predQ (fun w' => Blk w' A (.cells #[.int .i64 x0_0, .int .u32 x0_1, .int .u32 x0_2] 48) ∧ Row w' (A + 1) 32 .u8 x1 ∧ Row w' (g1) 33 .u8 z1 ∧ Row w' (g5) 33 .u8 z5 ∧ M5 ≤ w'.heap.size ∧ Below A w w') [0, 1, 2, 3, 4, 5, 6, 7, 8, 9, 10] [9] [11, 12]
        (fun ι w' v => match ι with
          | 0 | 1 => v = plV x0_0 x0_1 x0_2
          | 2 => v = dgV z5
          | 3 => v = .int .i64 x3
          | 4 => v = .int .i64 x4
          | 5 => v = .int .i64 x5
          | 6 | 7 => v = .tuple #[dgV z6, .int .i64 q6]
          | 8 => v = dgV z6
          | 9 => v = .int .i64 q6
          | 10 => ∃ g, v = .pointer (some ⟨g, 0, none⟩) ∧ M5 ≤ g ∧ Row w' g 33 .u8 (fill 16 [])
          | _ => v = .bool true)
        [[], [(0, some 63)], [], [], [], [], [(1, some 64), (2, some 65), (3, some 66), (4, some 67), (5, some 68)], [(6, some 69)], [(7, some 62)], [(7, some 62)], []]
        [[(7, some 62)]]
        [(0, some 63), (1, some 64), (2, some 65), (3, some 66), (4, some 67), (5, some 68), (6, some 69), (7, some 62), (8, some 70), (9, some 71), (10, some 19)]
        (by kernel_rfl) (by kernel_rfl) (by kernel_rfl) (by kernel_rfl) (by kernel_rfl) (by kernel_rfl) (by kernel_rfl) (by decide) (by decide) (fun w1 w2 h hb => ⟨h.1.keep hb, h.2.1.keep hb, h.2.2.1.keep hb, h.2.2.2.1.keep hb, Nat.le_trans h.2.2.2.2.1 hb.size, h.2.2.2.2.2.trans (hb.mono (Nat.le_of_lt h.1.lt))⟩) (fun c a w d v h => by cases d <;> exact h) ?_ ⟨P5.out.draw, R5_e.out.drew, R5_g1.out.drew, R5_g5.out.drew, HM5.out, B5.out.drew⟩ ?_ ?_ ?_
      · intro ι w1 w2 v h hb
        by_cases h10 : ι = 10
        · subst h10
          exact (by obtain ⟨g, e, h1, hg⟩ := h; exact ⟨g, e, h1, hg.keep hb⟩)
        match ι, h10, h with
        | 0, _, h => exact h
        | 1, _, h => exact h
        | 2, _, h => exact h
        | 3, _, h => exact h
        | 4, _, h => exact h
        | 5, _, h => exact h
        | 6, _, h => exact h
        | 7, _, h => exact h
        | 8, _, h => exact h
        | 9, _, h => exact h
        | 10, g, h => exact absurd rfl g
        | _ + 11, _, h => exact h
      · refine ⟨fun γ wx hS h => ?_, fun γ wx hS h => ?_, fun γ wx hS h => ?_, fun γ wx hS h => ?_, fun γ wx hS h => ?_, fun γ wx hS h => ?_, fun γ wx hS h => ?_, fun γ wx hS h => ?_, fun γ wx hS h => ?_, fun γ wx hS h => ?_, fun γ wx hS h => ?_, trivial⟩
        · refine ⟨_, rfl, Or.inl ⟨rfl, predRun_value (exec_load_blk 48 (.tmp 6) rfl (A) rfl 48 _ (0, 0) _ hS.1 Tryd.underlying48 rfl (cells48 x0_0 x0_1 x0_2)) rfl⟩⟩
        · have h0 := h
          have e0 : γ 0 = plV x0_0 x0_1 x0_2 := h0
          refine ⟨_, rfl, Or.inl ⟨rfl, predRun_call (f := 32) (args := #[plV x0_0 x0_1 x0_2]) (by simp only [putE, e0]; go_simp) ?_⟩⟩
          exact (to_any x0_0 x0_1 x0_2 wx).mono fun e w2 ⟨h1, h2⟩ => ⟨_, h1, rfl, h2⟩
        · refine ⟨_, rfl, Or.inl ⟨rfl, predRun_value (exec_load_blk 33 (.tmp 17) rfl (g5) rfl 33 _ (0, 0) _ hS.2.2.2.1 Tryd.underlying33 rfl (cells50 HZ5l.out.1)) rfl⟩⟩
        · refine ⟨_, rfl, Or.inl ⟨rfl, predRun_value (v := .int .i64 x3) (by simp only [putE]; first | rfl | (go_simp; done) | (go_simp; with_reducible rfl) | (go_simp; rfl)) rfl⟩⟩
        · refine ⟨_, rfl, Or.inl ⟨rfl, predRun_value (v := .int .i64 x4) (by simp only [putE]; first | rfl | (go_simp; done) | (go_simp; with_reducible rfl) | (go_simp; rfl)) rfl⟩⟩
        · refine ⟨_, rfl, Or.inl ⟨rfl, predRun_value (v := .int .i64 x5) (by simp only [putE]; first | rfl | (go_simp; done) | (go_simp; with_reducible rfl) | (go_simp; rfl)) rfl⟩⟩
        · obtain ⟨h1, h2, h3, h4, h5⟩ := h
          have e1 : γ 1 = plV x0_0 x0_1 x0_2 := h1
          have e2 : γ 2 = dgV z5 := h2
          have e3 : γ 3 = .int .i64 x3 := h3
          have e4 : γ 4 = .int .i64 x4 := h4
          have e5 : γ 5 = .int .i64 x5 := h5
          refine ⟨_, rfl, Or.inl ⟨rfl, predRun_call (f := 42) (args := #[plV x0_0 x0_1 x0_2, dgV z5, .int .i64 x3, .int .i64 x4, .int .i64 x5]) (by simp only [putE, e1, e2, e3, e4, e5]; go_simp) ?_⟩⟩
          exact (climb_any x0_0 x0_1 x0_2 z5 x3 x4 x5 wx (HK.out.keep (by rw [← HA.out]; exact hS.2.2.2.2.2)) HE.out HS.out HZ5l.out.1 HZ5l.out.2).mono fun e w2 ⟨h1, h2⟩ => ⟨_, h1, by show Value.tuple _ = Value.tuple _; rw [HZ6.out.1, HZ6.out.2], h2⟩
        · have h6 := h
          have e6 : γ 6 = .tuple #[dgV z6, .int .i64 q6] := h6
          refine ⟨_, rfl, Or.inl ⟨rfl, predRun_value (v := .tuple #[dgV z6, .int .i64 q6]) (by simp only [putE, e6]; first | rfl | (go_simp; done) | (go_simp; with_reducible rfl) | (go_simp; rfl)) rfl⟩⟩
        · have h7 := h
          have e7 : γ 7 = .tuple #[dgV z6, .int .i64 q6] := h7
          refine ⟨_, rfl, Or.inl ⟨rfl, predRun_value (v := dgV z6) (by simp only [putE, e7]; first | rfl | (go_simp; done) | (go_simp; with_reducible rfl) | (go_simp; rfl)) rfl⟩⟩
        · have h7 := h
          have e7 : γ 7 = .tuple #[dgV z6, .int .i64 q6] := h7
          refine ⟨_, rfl, Or.inl ⟨rfl, predRun_value (v := .int .i64 q6) (by simp only [putE, e7]; first | rfl | (go_simp; done) | (go_simp; with_reducible rfl) | (go_simp; rfl)) rfl⟩⟩
        · refine ⟨_, rfl, Or.inl ⟨rfl, predRun_new (w' := wx.alloc z50) (v := .pointer (some ⟨wx.heap.size, 0, none⟩)) (by simp only [putE]; first | rfl | (go_simp; done) | (go_simp; rfl)) (more (Below.refl _ _) _) ⟨_, rfl, hS.2.2.2.2.1, Blk.new _ _⟩⟩⟩
      · refine ⟨fun γ wx hS h => ?_, trivial⟩
        · have h7 := h
          have e7 : γ 7 = .tuple #[dgV z6, .int .i64 q6] := h7
          refine ⟨_, .int .i64 q6, rfl, Or.inl ⟨rfl, fun wz => by simp only [putE, e7]; first | rfl | (go_simp; done) | (go_simp; rfl)⟩, rfl⟩
      · intro γ w9 hS h
        have e8 : γ 8 = dgV z6 := h.2.2.2.2.2.2.2.2.1
        have e9 : γ 9 = .int .i64 q6 := h.2.2.2.2.2.2.2.2.2.1
        obtain ⟨g6, e10, hMg, hg⟩ : ∃ g, γ 10 = .pointer (some ⟨g, 0, none⟩) ∧ M5 ≤ g ∧ Row w9 g 33 .u8 (fill 16 []) := h.2.2.2.2.2.2.2.2.2.2
        simp only [putE, Act.put, List.setIfInBounds_toArray, List.set_cons_zero, List.set_cons_succ]
        rw [e8, e9, e10]
        have HGA : Kp (Row w9 g6 33 .u8 (fill 16 [])) := ⟨hg⟩
        obtain ⟨W6, hW9⟩ : ∃ W, W = w9.setRow g6 (kv .u8 z6).toArray := ⟨_, rfl⟩
        have P6 : Kp (Blk W6 A (.cells #[.int .i64 x0_0, .int .u32 x0_1, .int .u32 x0_2] 48)) := ⟨by rw [hW9]; exact (setRow_other _ g6 A _ (by omega)).trans hS.1⟩
        have R6_e : Kp (Row W6 (A + 1) 32 .u8 x1) := ⟨by rw [hW9]; exact Row.otherRow hS.2.1 (by omega) _⟩
        have R6_g1 : Kp (Row W6 (g1) 33 .u8 z1) := ⟨by rw [hW9]; exact Row.otherRow hS.2.2.1 (by omega) _⟩
        have R6_g5 : Kp (Row W6 (g5) 33 .u8 z5) := ⟨by rw [hW9]; exact Row.otherRow hS.2.2.2.1 (by omega) _⟩
        have R6_g6 : Kp (Row W6 (g6) 33 .u8 z6) := ⟨by rw [hW9]; exact HGA.out.setRow z6⟩
        have B6 : Kp (Below A w W6) := ⟨by rw [hW9]; exact Below.row hS.2.2.2.2.2 (by omega) _⟩
        have HWk := Kp.mk hW9
        clear h hS e8 e9 e10 hg hW9 P5 B5 HM5 hMg R5_e hb5_e R5_g1 hb5_g1 R5_g5 hb5_g5
        refine wpOps_step rfl rfl ?_
        refine wp_store_rowD rfl 33 (.tmp 19) (.tmp 70) rfl g6 (kv .u8 z6).toArray rfl rfl 33 _ HGA.out (cells50 HZ6l.out.1) (size50 HZ6l.out.1) (kv_all _ _) ?_
        rw [← HWk.out]
        clear HWk HGA
        refine wpOps_step rfl rfl ?_
        refine wp_assign_endD (d := some 20) (v := .int .i64 q6) rfl rfl rfl ?_
        simp only [Act.put, List.setIfInBounds_toArray, List.set_cons_zero, List.set_cons_succ]
        refine wpOps_done ?_
        cases h5 : climbOk x2 x3 x5 with
        | false =>
          have hq5 : q5 = 1 := by rw [HZ5.out.2]; simp [climbF, h5]
          subst hq5
          go_wp2_with fail
          go_ret
          exact ⟨rfl, by rw [← HA.out]; exact B6.out⟩
        | true =>
          have hq5 : q5 = 0 := by rw [HZ5.out.2]; simp [climbF, h5]
          cases h6 : climbOk x3 x4 x5 with
          | false =>
            have hq6 : q6 = 1 := by rw [HZ6.out.2]; simp [climbF, h6]
            subst hq5 hq6
            go_wp2_with fail
            go_ret
            exact ⟨rfl, by rw [← HA.out]; exact B6.out⟩
          | true =>
            have hq6 : q6 = 0 := by rw [HZ6.out.2]; simp [climbF, h6]
            have h1 : climbOk x2 x4 x5 = true := by
              have a := climbOk_spec.1 h5
              have b := climbOk_spec.1 h6
              exact climbOk_spec.2 (by omega)
            have hq1 : q1 = 0 := by rw [HZ1.out.2]; simp [climbF, h1]
            have hz : z6 = z1 := by
              have a := climbOk_spec.1 h5
              have b := climbOk_spec.1 h6
              rw [HZ6.out.1, HZ5.out.1, HZ1.out.1]
              simp only [climbS, h5, h6, h1, if_true]
              have e1 : x3 = x2 + ((x3 - x2).toNat : Int) := by omega
              have e2 : (x4 - x2).toNat = (x3 - x2).toNat + (x4 - x3).toNat := by omega
              rw [e2, ← climbL_add, ← e1]
            have R6_z : Kp (Row W6 g6 33 .u8 z1) := ⟨by rw [← hz]; exact R6_g6.out⟩
            clear hz h1 h5 h6 R6_g6
            subst hq5 hq6 hq1
            have hq := HQE.out
            have hg := eqg50
            go_wp2_with first
              | (refine wpList_load_rowG rfl 33 (.tmp 13) rfl g1 rfl 33 _ (0, 0) _ R6_g1.out Tryd.underlying33 rfl (cells50 HZ1l.out.1) ?_)
              | (refine wpList_load_rowG rfl 33 (.tmp 19) rfl g6 rfl 33 _ (0, 0) _ R6_z.out Tryd.underlying33 rfl (cells50 HZ1l.out.1) ?_)
            clear hq hg
            go_ret
            exact ⟨rfl, by rw [← HA.out]; exact B6.out⟩
end Go.Proofs.YtahmioiefmheeaaDoor
