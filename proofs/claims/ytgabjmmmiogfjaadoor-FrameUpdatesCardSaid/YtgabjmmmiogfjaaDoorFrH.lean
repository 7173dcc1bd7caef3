/-
  The law FrameSeals, walked.
-/
import Derived.Test.YtgabjmmmiogfjaaDoorFrG
namespace Go.Proofs.YtgabjmmmiogfjaaDoor
open Go.RowKit

theorem exec_load_row {P : Program} {o : Oper} {a : Act} {w : World} {ty : TypeId} {x : Operand} {g : Nat} {t : TypeId} {cs : Array Value} {fr : Nat × Nat} {d : TypeDesc} (ho : o.op = .load ty x) (hx : a.eval x = .pointer (some ⟨g, 0, none⟩)) (hg : w.heap[g]? = some (.cells cs t fr))
    (hu : P.underlying ty = some d) (hd : (match d with | .struct _ | .array _ _ => true | _ => false) = true) (hi : (P.info? ty).map (·.size) = some cs.size) : (execOp a.eval o).run P w = .ok (.value (.agg cs)) w := by
  unfold execOp
  simp only [ho, hx, Instr.loadAt, Instr.sureAddr, Sem.run_bind, Sem.run_pure, Result.andThen_ok, run_loadVar_row w g t ty cs fr d hg hu hd hi]
set_option maxRecDepth 100000 in
set_option maxHeartbeats 8000000 in
theorem seals_core (key : List Int) (p : FV) (tp : List Int) (n : Int) (w : World) (hk : KonIs w) (hkey : key.length = 32 ∧ Bytes key) (h : HoldsB w w.heap.size (.slice p.a p.n p.c) tp) (hid : BigP p) (hl : tp.length ≤ 140737488351232) :
    Calls Tryd.prog 3 #[dgV key, p.v, .int .i64 n] w fun r w' => r = .returned (.bool true) ∧ Below w.heap.size w w' := by
  have hC := fun (w : World) => box_row (t := 22) (cs := kv .u8 key) (cells22 hkey.1) w
  obtain ⟨A, hA⟩ : ∃ A, A = w.heap.size := ⟨_, rfl⟩
  have HA := Kp.mk hA
  have HKEY := Kp.mk hkey
  have H := Kp.mk h
  have HID := Kp.mk hid
  have HL := Kp.mk hl
  have HKON := Kp.mk hk
  obtain ⟨E, hE⟩ : ∃ E, E = sealE p := ⟨_, rfl⟩
  obtain ⟨X, hX⟩ : ∃ X, X = sealX key p tp := ⟨_, rfl⟩
  have HE := Kp.mk hE
  have HX := Kp.mk hX
  clear hk hkey h hid hl hA hE hX
  go_enter Tryd.func3, Tryd.ntmps3
  go_wp2_with (refine wpList_box_eq rfl 22 (.tmp 0) rfl _ rfl _ _ (hC _) ?_; rw [← HA.out]; refine wpl_world (fun w2 => Row w2 A 22 .u8 key ∧ Below A w w2 ∧ A + 1 = w2.heap.size ∧ HoldsB w2 A (.slice p.a p.n p.c) tp ∧ KonIs w2) ⟨Blk.newAt _ HA.out, by rw [HA.out]; exact more (Below.refl _ _) _, by simp [HA.out], by rw [HA.out]; exact H.out.alloc _, HKON.out.keep (more (Below.refl _ _) _)⟩ ?_; rintro W1 ⟨h0, h1, h2, h3, h4⟩; have K0 := Kp.mk h0; have K1 := Kp.mk h1; have K2 := Kp.mk h2; have K3 := Kp.mk h3; have K4 := Kp.mk h4; clear h0 h1 h2 h3 h4)
  clear hC
  rw [← K2.out]
  have HK1 : Kp (Row (W1.alloc (p.box 26)) A 22 .u8 key) := ⟨K0.out.alloc _⟩
  have HP1 : Kp (Blk (W1.alloc (p.box 26)) (A + 1) (p.box 26)) := ⟨Blk.newAt _ K2.out⟩
  have HT1 : Kp (HoldsB (W1.alloc (p.box 26)) A (.slice p.a p.n p.c) tp) := ⟨K3.out.alloc _⟩
  have HN1 : Kp (KonIs (W1.alloc (p.box 26))) := ⟨K4.out.keep (more (Below.refl _ _) _)⟩
  have HB1 : Kp (Below A w (W1.alloc (p.box 26))) := ⟨K1.out.alloc (by have := K2.out; omega) _⟩
  clear K0 K1 K2 K3 K4
  generalize W1.alloc (p.box 26) = W2 at *
  refine wp_region_predQ (fun w' => Row w' A 22 .u8 key ∧ Blk w' (A + 1) (p.box 26) ∧ HoldsB w' A (.slice p.a p.n p.c) tp ∧ KonIs w' ∧ Below A w w') [0, 1, 2, 3, 4, 5, 6] [6] [7, 8]
    (fun ι w' v => match ι with
      | 0 => v = dgV key
      | 1 => v = p.v
      | 6 => v = .int .i64 E
      | 2 => ∃ a c, v = .agg #[.int .i64 p.fr, .int .i64 p.to, .int .u64 p.bo, .int .u64 p.co, .int .i64 p.ki, .slice a p.n c] ∧ HoldsB w' w'.heap.size (.slice a p.n c) tp
      | 3 => ∃ a n c, v = .tuple #[.slice a n c, .int .i64 E] ∧ HoldsB w' w'.heap.size (.slice a n c) X
      | 4 => ∃ a n c, v = .tuple #[.slice a n c, .int .i64 E] ∧ HoldsB w' w'.heap.size (.slice a n c) X
      | 5 => ∃ a n c, v = .slice a n c ∧ HoldsB w' w'.heap.size (.slice a n c) X
      | _ => v = .bool true)
    [[], [], [(1, some 14)], [(0, some 13), (2, some 15)], [(3, some 16)], [(4, some 12)], [(4, some 12)]]
    [[(4, some 12)]]
    [(0, some 13), (1, some 14), (2, some 15), (3, some 16), (4, some 12), (5, some 17), (6, some 18)]
    (by kernel_rfl) (by kernel_rfl) (by kernel_rfl) (by kernel_rfl) (by kernel_rfl) (by kernel_rfl) (by kernel_rfl) (by decide) (by decide) (fun w1 w2 h hb => ⟨h.1.keep hb, h.2.1.keep hb, h.2.2.1.keep hb, h.2.2.2.1.keep hb, h.2.2.2.2.trans (hb.mono (Nat.le_of_lt h.1.lt))⟩) (fun c a w d v h => by cases d <;> exact h) ?_ ⟨HK1.out.keep (Below.refl _ _).drew, HP1.out.keep (Below.refl _ _).drew, HT1.out.keep (Below.refl _ _).drew, HN1.out.keep (Below.refl _ _).drew, HB1.out.drew⟩ ?_ ?_ ?_
  · intro ι w1 w2 v h hb
    by_cases h2 : ι = 2
    · subst h2
      exact (by obtain ⟨a, c, e, hg⟩ := h; exact ⟨a, c, e, hg.grow hb⟩)
    by_cases h3 : ι = 3
    · subst h3
      exact (by obtain ⟨a, n, c, e, hg⟩ := h; exact ⟨a, n, c, e, hg.grow hb⟩)
    by_cases h4 : ι = 4
    · subst h4
      exact (by obtain ⟨a, n, c, e, hg⟩ := h; exact ⟨a, n, c, e, hg.grow hb⟩)
    by_cases h5 : ι = 5
    · subst h5
      exact (by obtain ⟨a, n, c, e, hg⟩ := h; exact ⟨a, n, c, e, hg.grow hb⟩)
    match ι, h2, h3, h4, h5, h with
    | 0, _, _, _, _, h => exact h
    | 1, _, _, _, _, h => exact h
    | 2, g, _, _, _, h => exact absurd rfl g
    | 3, _, g, _, _, h => exact absurd rfl g
    | 4, _, _, g, _, h => exact absurd rfl g
    | 5, _, _, _, g, h => exact absurd rfl g
    | 6, _, _, _, _, h => exact h
    | _ + 7, _, _, _, _, h => exact h
  · refine ⟨fun γ wx hS h => ?_, fun γ wx hS h => ?_, fun γ wx hS h => ?_, fun γ wx hS h => ?_, fun γ wx hS h => ?_, fun γ wx hS h => ?_, fun γ wx hS h => ?_, trivial⟩
    · refine ⟨_, rfl, ?_⟩
      refine predOp_val (v := dgV key) ?_ ?_ ?_
      · kernel_rfl
      · exact exec_load_row (x := .tmp 3) (g := A) (t := 22) (cs := (kv .u8 key).toArray) (fr := (0, 0)) rfl (by simp only [putE, Act.put, List.setIfInBounds_toArray, List.set_cons_zero, List.set_cons_succ]; rfl) hS.1 Tryd.underlying22 rfl (cells22 HKEY.out.1)
      · rfl
    · refine ⟨_, rfl, ?_⟩
      refine predOp_val (v := p.v) ?_ ?_ ?_
      · kernel_rfl
      · exact exec_load_row (x := .tmp 4) (g := A + 1) (t := 26) (cs := #[.int .i64 p.fr, .int .i64 p.to, .int .u64 p.bo, .int .u64 p.co, .int .i64 p.ki, .slice p.a p.n p.c]) (fr := (0, 0)) rfl (by simp only [putE, Act.put, List.setIfInBounds_toArray, List.set_cons_zero, List.set_cons_succ]; rfl) hS.2.1 Tryd.underlying26 rfl info26s
      · rfl
    · have h1 := h
      have e1 : γ 1 = p.v := h1
      refine ⟨_, rfl, Or.inl ⟨rfl, predRun_call (f := 9) (args := #[p.v]) (by simp only [putE, e1]; go_simp) ?_⟩⟩
      exact (to_any p tp wx (hS.2.2.1.mono (Nat.le_of_lt hS.1.lt)) HL.out).mono fun r w9 ⟨a, c, h1, h2, h3⟩ => ⟨_, h1, ⟨a, c, rfl, HoldsB.ofRow hS.2.2.1.bytes h2⟩, h3⟩
    · obtain ⟨h0, h2⟩ := h
      have e0 : γ 0 = dgV key := h0
      have p2 : ∃ a c, (γ 2) = .agg #[.int .i64 p.fr, .int .i64 p.to, .int .u64 p.bo, .int .u64 p.co, .int .i64 p.ki, .slice a p.n c] ∧ HoldsB wx wx.heap.size (.slice a p.n c) tp := h2
      obtain ⟨a, c, e2, h9⟩ := p2
      refine ⟨_, rfl, Or.inl ⟨rfl, predRun_call (f := 8) (args := #[dgV key, .agg #[.int .i64 p.fr, .int .i64 p.to, .int .u64 p.bo, .int .u64 p.co, .int .i64 p.ki, .slice a p.n c]]) (by simp only [putE, e0, e2]; go_simp) ?_⟩⟩
      exact (seal_all key ⟨p.fr, p.to, p.bo, p.co, p.ki, a, p.n, c⟩ tp wx hS.2.2.2.1 HKEY.out h9 HID.out).mono fun r w9 ⟨a, n, c, h1, h2, h3⟩ => ⟨_, h1, ⟨a, n, c, by rw [HE.out]; rfl, by rw [HX.out]; exact h2⟩, h3⟩
    · have h3 := h
      have p3 : ∃ a n c, (γ 3) = .tuple #[.slice a n c, .int .i64 E] ∧ HoldsB wx wx.heap.size (.slice a n c) X := h3
      obtain ⟨a, n, c, e3, h9⟩ := p3
      refine ⟨_, rfl, ?_⟩
      refine predOp_val (v := .tuple #[.slice a n c, .int .i64 E]) ?_ ?_ ?_
      · kernel_rfl
      · simp only [putE, e3]
        go_simp
      · exact ⟨a, n, c, rfl, h9⟩
    · have h4 := h
      have p4 : ∃ a n c, (γ 4) = .tuple #[.slice a n c, .int .i64 E] ∧ HoldsB wx wx.heap.size (.slice a n c) X := h4
      obtain ⟨a, n, c, e4, h9⟩ := p4
      refine ⟨_, rfl, ?_⟩
      refine predOp_val (v := .slice a n c) ?_ ?_ ?_
      · kernel_rfl
      · simp only [putE, e4]
        go_simp
      · exact ⟨a, n, c, rfl, h9⟩
    · have h4 := h
      have p4 : ∃ a n c, (γ 4) = .tuple #[.slice a n c, .int .i64 E] ∧ HoldsB wx wx.heap.size (.slice a n c) X := h4
      obtain ⟨a, n, c, e4, h9⟩ := p4
      refine ⟨_, rfl, ?_⟩
      refine predOp_val (v := .int .i64 E) ?_ ?_ ?_
      · kernel_rfl
      · simp only [putE, e4]
        go_simp
      · rfl
  · refine ⟨fun γ wx hS h => ?_, trivial⟩
    · have h4 := h
      have p4 : ∃ a n c, (γ 4) = .tuple #[.slice a n c, .int .i64 E] ∧ HoldsB wx wx.heap.size (.slice a n c) X := h4
      obtain ⟨a, n, c, e4, hh⟩ := p4
      refine ⟨_, .int .i64 E, rfl, Or.inl ⟨rfl, fun wz => by simp only [putE, e4]; first | rfl | (go_simp; done) | (go_simp; rfl)⟩, rfl⟩
  · intro γ w9 hS h
    obtain ⟨xa, xn, xc, e5, h9⟩ := h.2.2.2.2.2.1
    have e6 : γ 6 = .int .i64 E := h.2.2.2.2.2.2
    simp only [putE, Act.put, List.setIfInBounds_toArray, List.set_cons_zero, List.set_cons_succ]
    rw [e5, e6]
    have HX9 := Kp.mk h9
    have HS9 := Kp.mk hS
    clear h hS e5 e6 h9
    generalize γ 0 = g0
    generalize γ 1 = g1
    generalize γ 2 = g2
    generalize γ 3 = g3
    generalize γ 4 = g4
    refine wpOps_step rfl rfl ?_
    go_simp
    refine wpOps_step rfl rfl ?_
    go_simp
    refine wpOps_done ?_
    obtain ⟨sx, hsx⟩ : ∃ sx, sx = strOfNums X := ⟨_, rfl⟩
    have HSX := Kp.mk hsx
    clear hsx
    go_wp2_with (first
      | (refine wpList_load_row rfl 22 (.tmp 3) rfl A rfl 22 (kv .u8 key).toArray (0, 0) _ HS9.out.1 Tryd.underlying22 rfl (cells22 HKEY.out.1) ?_)
      | (refine wpList_load_row rfl 26 (.tmp 4) rfl (A + 1) rfl 26 #[.int .i64 p.fr, .int .i64 p.to, .int .u64 p.bo, .int .u64 p.co, .int .i64 p.ki, .slice p.a p.n p.c] (0, 0) _ HS9.out.2.1 Tryd.underlying26 rfl info26s ?_))
    refine (rseal_all key p tp w9 HKEY.out (HS9.out.2.2.1.mono (Nat.le_of_lt HS9.out.1.lt)) HID.out).mono ?_
    rintro r w10 ⟨ya, yn, yc, rfl, hy, hb⟩
    rw [← HE.out]
    rw [← HX.out] at hy
    have HY := Kp.mk hy
    have HX10 := Kp.mk (HX9.out.grow hb)
    have HN10 := Kp.mk (HS9.out.2.2.2.1.keep hb)
    have HB10 : Kp (Below A w w10) := ⟨HS9.out.2.2.2.2.trans (hb.mono (Nat.le_of_lt HS9.out.1.lt))⟩
    clear hy hb HX9 HS9
    go_wp2_with fail
    refine (rcost_any 22 _ (by decide) (by decide)).mono ?_
    rintro r w11 ⟨rfl, rfl⟩
    rw [show blkI 22 + 3 = 4 by decide]
    by_cases hn0 : 0 < n
    · by_cases hn1 : n < 1099511627776
      · have hcv : blkI (22 + n) + 3 = costV n := by unfold costV; rw [if_neg (by omega)]
        have HRC : Kp (∀ w, Calls Tryd.prog 11 #[.int .i64 32, .int .i64 (22 + n)] w fun r w' => r = .returned (.int .i64 (costV n)) ∧ w = w') := ⟨fun w => by rw [← hcv]; exact rcost_any (22 + n) w (by omega) (by omega)⟩
        have HFC : Kp (∀ w, Calls Tryd.prog 13 #[.int .i64 n] w fun r w' => r = .returned (.int .i64 (costV n)) ∧ w = w') := ⟨fun w => fcost_any n w hn1⟩
        clear hcv
        generalize costV n = cv at *
        have hn2 : 22 + n ≤ 9223372036854775807 := by omega
        go_wp2_with fail
        refine (HRC.out _).mono ?_
        rintro r w11 ⟨rfl, rfl⟩
        go_wp2_with fail
        refine (awake_any _ HN10.out).mono ?_
        rintro r w12 ⟨rfl, hb⟩
        have HX12 := Kp.mk (HX10.out.grow hb)
        have HY12 := Kp.mk (HY.out.grow hb)
        have HB12 : Kp (Below A w w12) := ⟨HB10.out.trans (hb.mono (by rw [HA.out]; exact HB10.out.size))⟩
        have q1 : (convert 24 9 (.slice xa xn xc)).run Tryd.prog w12 = .ok (.string sx) w12 := by rw [HSX.out]; exact HX12.out.text
        have q2 : (convert 24 9 (.slice ya yn yc)).run Tryd.prog w12 = .ok (.string sx) w12 := by rw [HSX.out]; exact HY12.out.text
        have q3 : (sx.toList == sx.toList) = true := by simp
        have q4 : (E == E) = true := by simp
        have q5 : (cv == cv) = true := by simp
        clear hb
        go_wp2_with fail
        refine (HFC.out _).mono ?_
        rintro r w11 ⟨rfl, rfl⟩
        go_wp2_with fail
        go_ret
        exact ⟨rfl, by rw [← HA.out]; exact HB12.out⟩
      · have hn1' : 1099511627776 ≤ n := by omega
        go_wp2_with fail
        refine (awake_any _ HN10.out).mono ?_
        rintro r w12 ⟨rfl, hb⟩
        have HX12 := Kp.mk (HX10.out.grow hb)
        have HY12 := Kp.mk (HY.out.grow hb)
        have HB12 : Kp (Below A w w12) := ⟨HB10.out.trans (hb.mono (by rw [HA.out]; exact HB10.out.size))⟩
        have q1 : (convert 24 9 (.slice xa xn xc)).run Tryd.prog w12 = .ok (.string sx) w12 := by rw [HSX.out]; exact HX12.out.text
        have q2 : (convert 24 9 (.slice ya yn yc)).run Tryd.prog w12 = .ok (.string sx) w12 := by rw [HSX.out]; exact HY12.out.text
        have q3 : (sx.toList == sx.toList) = true := by simp
        have q4 : (E == E) = true := by simp
        clear hb
        go_wp2_with fail
        go_ret
        exact ⟨rfl, by rw [← HA.out]; exact HB12.out⟩
    · have hcv : costV n = 4 := by unfold costV; rw [if_pos (by omega)]; decide
      have HFC : Kp (∀ w, Calls Tryd.prog 13 #[.int .i64 n] w fun r w' => r = .returned (.int .i64 4) ∧ w = w') := ⟨fun w => by rw [← hcv]; exact fcost_any n w (by omega)⟩
      have hn0' : n ≤ 0 := by omega
      have hn1 : n < 1099511627776 := by omega
      clear hcv
      go_wp2_with fail
      refine (awake_any _ HN10.out).mono ?_
      rintro r w12 ⟨rfl, hb⟩
      have HX12 := Kp.mk (HX10.out.grow hb)
      have HY12 := Kp.mk (HY.out.grow hb)
      have HB12 : Kp (Below A w w12) := ⟨HB10.out.trans (hb.mono (by rw [HA.out]; exact HB10.out.size))⟩
      have q1 : (convert 24 9 (.slice xa xn xc)).run Tryd.prog w12 = .ok (.string sx) w12 := by rw [HSX.out]; exact HX12.out.text
      have q2 : (convert 24 9 (.slice ya yn yc)).run Tryd.prog w12 = .ok (.string sx) w12 := by rw [HSX.out]; exact HY12.out.text
      have q3 : (sx.toList == sx.toList) = true := by simp
      have q4 : (E == E) = true := by simp
      clear hb
      go_wp2_with fail
      refine (HFC.out _).mono ?_
      rintro r w11 ⟨rfl, rfl⟩
      go_wp2_with fail
      go_ret
      exact ⟨rfl, by rw [← HA.out]; exact HB12.out⟩
end Go.Proofs.YtgabjmmmiogfjaaDoor
