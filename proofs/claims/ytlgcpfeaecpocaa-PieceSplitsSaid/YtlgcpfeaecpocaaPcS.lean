/-
  The pieces of any body are the document's: the walk.
-/
import Derived.Test.YtlgcpfeaecpocaaPcR
namespace Go.Proofs.Ytlgcpfeaecpocaa
open Go.RowKit

theorem idx41 (B o n cap j : Nat) (hj : j < n) (w : World) : (Instr.indexAt 41 (.slice (some ⟨B, o, none⟩) n cap) (.int .i64 j)).run Try.prog w = .ok (.pointer (some ⟨B, o + j * 4, none⟩)) w := by
  go_simp
theorem exec_idx41 {o' : Oper} {a : Act} {w : World} {x y : Operand} {B o n cap j : Nat} {q : Int} (ho : o'.op = .indexAddr 41 x y) (hx : a.eval x = .slice (some ⟨B, o, none⟩) n cap) (hy : a.eval y = .int .i64 q) (hq : q = (j : Nat)) (hj : j < n) :
    (execOp a.eval o').run Try.prog w = .ok (.value (.pointer (some ⟨B, o + j * 4, none⟩))) w := by
  unfold execOp
  subst hq
  simp only [ho, hx, hy, Sem.run_bind, idx41 B o n cap j hj w, Result.andThen_ok, Sem.run_pure]
theorem idx44 (B o n cap j : Nat) (hj : j < n) (w : World) : (Instr.indexAt 44 (.slice (some ⟨B, o, none⟩) n cap) (.int .i64 j)).run Try.prog w = .ok (.pointer (some ⟨B, o + j * 4, none⟩)) w := by
  go_simp
theorem exec_idx44 {o' : Oper} {a : Act} {w : World} {x y : Operand} {B o n cap j : Nat} {q : Int} (ho : o'.op = .indexAddr 44 x y) (hx : a.eval x = .slice (some ⟨B, o, none⟩) n cap) (hy : a.eval y = .int .i64 q) (hq : q = (j : Nat)) (hj : j < n) :
    (execOp a.eval o').run Try.prog w = .ok (.value (.pointer (some ⟨B, o + j * 4, none⟩))) w := by
  unfold execOp
  subst hq
  simp only [ho, hx, hy, Sem.run_bind, idx44 B o n cap j hj w, Result.andThen_ok, Sem.run_pure]
theorem DRow.range {w : World} {B lb n cap : Nat} {l : List PcV} (h : DRow w B (.slice (some ⟨lb, 0, none⟩) n cap) l) {i : Nat} (hi : i < l.length) : w.rangeAt lb (i * 4) (pcc l[i]) := by
  obtain ⟨lb', cap', e, -, -, hr⟩ := h.at hi
  simp only [Value.slice.injEq, Option.some.injEq, Addr.mk.injEq, true_and, and_true] at e
  obtain ⟨rfl, -, -⟩ := e
  exact hr
theorem shape4 {x : PcV} {id at_ m : Int} {l : List Int} (h : x.id = id ∧ x.at_ = at_ ∧ x.many = m ∧ x.l = l) {a : Option Addr} {n c : Nat} (hv : x.v = .slice a n c) : pcc x = [.int .u32 id, .int .i64 at_, .int .i64 m, .slice a n c] := by
  unfold pcc
  rw [h.1, h.2.1, h.2.2.1, hv]
set_option maxRecDepth 100000 in
set_option maxHeartbeats 4000000 in
theorem splits_good (id : Int) (sz : Nat) (a : Option Addr) (n cap : Nat) (bl : List Int) (w : World) (h : HoldsB w w.heap.size (.slice a n cap) bl) (hs : 1 ≤ sz ∧ sz ≤ 4096) (hl : bl.length ≤ 16384) (hm32 : manyN bl.length sz ≤ 32) :
    Calls Try.prog 4 #[.int .u32 id, .slice a n cap, .int .i64 sz] w fun r w' => r = .returned (.bool true) ∧ Below w.heap.size w w' := by
  have hn : n = bl.length := by
    obtain ⟨a1, n1, c1, e1, e2⟩ := h.slice
    simp only [Value.slice.injEq] at e1
    omega
  have H := Kp.mk h
  have HM1 := Kp.mk (manyN_is (n := bl.length) hs.1)
  have HM2 : Kp (∀ k, k < manyN bl.length sz → k * sz ≤ bl.length) := ⟨fun k hk => manyN_lt hk⟩
  have HM0 : 0 < manyN bl.length sz := manyN_pos
  have HM3 := Kp.mk hm32
  obtain ⟨m, hm⟩ : ∃ m, m = manyN bl.length sz := ⟨_, rfl⟩
  rw [← hm] at HM0 hm32
  have HMM := Kp.mk hm
  have hn2 : ¬ (20000 : Int) < n := by omega
  have HN := Kp.mk hn
  have HSS := Kp.mk hs
  have HLL := Kp.mk hl
  clear h hm hn hl
  go_enter Try.func4, Try.ntmps4
  go_wp2_with fail
  refine (split_any id sz m _ bl w H.out HSS.out HLL.out (by rw [HMM.out]; exact HM1.out) hm32 (by rw [HMM.out]; exact HM2.out)).mono ?_
  rintro r w1 ⟨Q, l, rfl, -, hb, hr, hll, hx⟩
  have HB1 := Kp.mk hb
  have HR1 := Kp.mk hr
  have HL1 := Kp.mk hll
  have HX1 := Kp.mk hx
  clear hb hr hll hx
  go_wp2_with fail
  refine (rsplit_any id sz _ bl w1 (H.out.grow HB1.out) HSS.out HLL.out HM3.out HM2.out).mono ?_
  rintro r w2 ⟨v2, lm, rfl, hb, hr, hll, hx⟩
  rw [← HMM.out] at hll hx
  have HB2 : Kp (Below w.heap.size w w2) := ⟨HB1.out.trans (hb.mono HB1.out.size)⟩
  have HR2 : Kp (PRow w2 Q l) := ⟨HR1.out.keep hb⟩
  have HD2 := Kp.mk hr
  have HL2 := Kp.mk hll
  have HX2 := Kp.mk hx
  obtain ⟨lb, cap2, rfl, -, -, -⟩ := HD2.out.at (i := 0) (by omega)
  rw [hll] at HD2
  clear hb hr hll hx
  rw [HL2.out]
  go_wp2_with fail
  refine (awake_any w2).mono ?_
  rintro r w3 ⟨rfl, hb⟩
  have HB : Kp (Below w.heap.size w w3) := ⟨HB2.out.trans (hb.mono HB2.out.size)⟩
  have HR : Kp (PRow w3 Q l) := ⟨HR2.out.keep hb⟩
  obtain ⟨B, hB⟩ : ∃ B, B = w1.heap.size := ⟨_, rfl⟩
  rw [← hB] at HD2
  have HD : Kp (DRow w3 B (.slice (some ⟨lb, 0, none⟩) m cap2) lm) := ⟨HD2.out.keep hb⟩
  clear hb hB HR2 HB2 HB1 HR1 HD2
  go_wp2_with fail
  generalize w3 = W3 at *
  go_loopw [46] (fun c wr => ∃ i : Nat, i ≤ m ∧ c = .int .i64 i ∧ Kp (PRow wr Q l) ∧ Kp (DRow wr B (.slice (some ⟨lb, 0, none⟩) m cap2) lm) ∧ Kp (Below w.heap.size w wr)) (fun c _ => m - (intOf c).toNat)
  case atStart => exact ⟨0, by omega, rfl, HR, HD, HB⟩
  clear HR HD HB
  case round =>
    obtain ⟨i, hi, rfl, HR, HD, HB⟩ := hrel
    by_cases hlt : i < m
    · have hlt' : (i : Int) < (m : Int) := by omega
      have HIL : Kp (i < l.length) := ⟨by rw [HL1.out]; exact hlt⟩
      have HIM : Kp (i < lm.length) := ⟨by rw [HL2.out]; exact hlt⟩
      have q1 := HX1.out i (l[i]'(HIL.out)) (List.getElem?_eq_getElem HIL.out)
      have q2 := HX2.out i (lm[i]'(HIM.out)) (List.getElem?_eq_getElem HIM.out)
      obtain ⟨pa, pn, pc, e1, -⟩ := (HR.out.t _ (List.getElem_mem HIL.out)).slice
      obtain ⟨da, dn, dc, e2, -⟩ := (HD.out.text (List.getElem_mem HIM.out)).slice
      have HPC := Kp.mk (shape4 q1 e1)
      have HDC := Kp.mk (shape4 q2 e2)
      have HPV : Kp ((l[i]'(HIL.out)).v = .slice pa pn pc ∧ (l[i]'(HIL.out)).l = pieceL bl sz i) := ⟨e1, q1.2.2.2⟩
      have HDV : Kp ((lm[i]'(HIM.out)).v = .slice da dn dc ∧ (lm[i]'(HIM.out)).l = pieceL bl sz i) := ⟨e2, q2.2.2.2⟩
      clear q1 q2 e1 e2
      go_wp2_with fail
      refine wp_region_pred (fun w' => PRow w' Q l ∧ DRow w' B (.slice (some ⟨lb, 0, none⟩) m cap2) lm ∧ Below w.heap.size w w') [0, 1, 2, 3, 4, 5, 6, 7, 8, 9, 10] []
        (fun ι w' v => match ι with
          | 0 => v = .slice (some ⟨Q, 0, none⟩) m m
          | 1 | 6 => v = .int .i64 (i : Nat)
          | 2 => v = .pointer (some ⟨Q, 0 + i * 4, none⟩)
          | 3 | 4 => v = .agg #[.int .u32 id, .int .i64 (i : Nat), .int .i64 (m : Nat), .slice pa pn pc]
          | 5 => v = .slice (some ⟨lb, 0, none⟩) m cap2
          | 7 => v = .pointer (some ⟨lb, 0 + i * 4, none⟩)
          | 8 => v = .agg #[.int .u32 id, .int .i64 (i : Nat), .int .i64 (m : Nat), .slice da dn dc]
          | 10 => v = .bool false
          | _ => v = .bool true)
        [[], [], [(0, some 49), (1, some 50)], [(2, some 51)], [(3, some 52)], [], [], [(5, some 54), (6, some 55)], [(7, some 56)], [(4, some 53), (8, some 57)], [(9, some 58)]]
        [(0, some 49), (1, some 50), (2, some 51), (3, some 52), (4, some 53), (5, some 54), (6, some 55), (7, some 56), (8, some 57), (9, some 58), (10, some 59)]
        (by kernel_rfl) (by kernel_rfl) (by kernel_rfl) (by kernel_rfl) (by kernel_rfl) (by kernel_rfl) (by decide) (by decide) (fun w1 w2 h hb => ⟨h.1.keep hb, h.2.1.keep hb, h.2.2.trans (hb.mono h.2.2.size)⟩) ?_ ⟨HR.out.keep (Below.refl _ _).drew, HD.out.keep (Below.refl _ _).drew, HB.out.drew⟩ ?_ ?_
      · intro ι w1 w2 v h hb
        match ι, h with
        | 0, h => exact h
        | 1, h => exact h
        | 2, h => exact h
        | 3, h => exact h
        | 4, h => exact h
        | 5, h => exact h
        | 6, h => exact h
        | 7, h => exact h
        | 8, h => exact h
        | 9, h => exact h
        | 10, h => exact h
        | _ + 11, h => exact h
      · refine ⟨fun γ wx hS h => ?_, fun γ wx hS h => ?_, fun γ wx hS h => ?_, fun γ wx hS h => ?_, fun γ wx hS h => ?_, fun γ wx hS h => ?_, fun γ wx hS h => ?_, fun γ wx hS h => ?_, fun γ wx hS h => ?_, fun γ wx hS h => ?_, fun γ wx hS h => ?_, trivial⟩
        · refine ⟨_, rfl, ?_⟩
          refine predOp_val (v := .slice (some ⟨Q, 0, none⟩) m m) ?_ ?_ ?_
          · kernel_rfl
          · simp only [putE]
            go_simp
          · rfl
        · refine ⟨_, rfl, ?_⟩
          refine predOp_val (v := .int .i64 (i : Nat)) ?_ ?_ ?_
          · kernel_rfl
          · simp only [putE]
            go_simp
          · rfl
        · obtain ⟨h0, h1⟩ := h
          have e0 : γ 0 = .slice (some ⟨Q, 0, none⟩) m m := h0
          have e1 : γ 1 = .int .i64 (i : Nat) := h1
          refine ⟨_, rfl, ?_⟩
          refine predOp_val (v := .pointer (some ⟨Q, 0 + i * 4, none⟩)) ?_ ?_ ?_
          · kernel_rfl
          · exact exec_idx41 (x := .tmp 49) (y := .tmp 50) (B := Q) (o := 0) (n := m) (cap := m) (j := i) rfl (by simp only [putE, e0, e1, Act.put, List.setIfInBounds_toArray, List.set_cons_zero, List.set_cons_succ]; rfl) (by simp only [putE, e0, e1, Act.put, List.setIfInBounds_toArray, List.set_cons_zero, List.set_cons_succ]; rfl) rfl hlt
          · rfl
        · have h2 := h
          have e2 : γ 2 = .pointer (some ⟨Q, 0 + i * 4, none⟩) := h2
          refine ⟨_, rfl, ?_⟩
          refine predOp_val (v := .agg #[.int .u32 id, .int .i64 (i : Nat), .int .i64 (m : Nat), .slice pa pn pc]) ?_ ?_ ?_
          · kernel_rfl
          · exact exec_load_mid (b := Q) (off := 0 + i * 4) (x := .tmp 51) (cs := [.int .u32 id, .int .i64 (i : Nat), .int .i64 (m : Nat), .slice pa pn pc]) rfl (by simp only [putE, e2, Act.put, List.setIfInBounds_toArray, List.set_cons_zero, List.set_cons_succ]; rfl) (by rw [Nat.zero_add, ← HPC.out]; exact hS.1.at HIL.out) Try.underlying30 rfl info30s
          · rfl
        · have h3 := h
          have e3 : γ 3 = .agg #[.int .u32 id, .int .i64 (i : Nat), .int .i64 (m : Nat), .slice pa pn pc] := h3
          refine ⟨_, rfl, Or.inl ⟨rfl, predRun_call (f := 15) (args := #[.agg #[.int .u32 id, .int .i64 (i : Nat), .int .i64 (m : Nat), .slice pa pn pc]]) (by simp only [putE, e3]; go_simp) ?_⟩⟩
          exact (from_any id i m pa pn pc wx).mono fun r w9 h9 => ⟨_, h9.1, rfl, h9.2⟩
        · refine ⟨_, rfl, ?_⟩
          refine predOp_val (v := .slice (some ⟨lb, 0, none⟩) m cap2) ?_ ?_ ?_
          · kernel_rfl
          · simp only [putE]
            go_simp
          · rfl
        · refine ⟨_, rfl, ?_⟩
          refine predOp_val (v := .int .i64 (i : Nat)) ?_ ?_ ?_
          · kernel_rfl
          · simp only [putE]
            go_simp
          · rfl
        · obtain ⟨h5, h6⟩ := h
          have e5 : γ 5 = .slice (some ⟨lb, 0, none⟩) m cap2 := h5
          have e6 : γ 6 = .int .i64 (i : Nat) := h6
          refine ⟨_, rfl, ?_⟩
          refine predOp_val (v := .pointer (some ⟨lb, 0 + i * 4, none⟩)) ?_ ?_ ?_
          · kernel_rfl
          · exact exec_idx44 (x := .tmp 54) (y := .tmp 55) (B := lb) (o := 0) (n := m) (cap := cap2) (j := i) rfl (by simp only [putE, e5, e6, Act.put, List.setIfInBounds_toArray, List.set_cons_zero, List.set_cons_succ]; rfl) (by simp only [putE, e5, e6, Act.put, List.setIfInBounds_toArray, List.set_cons_zero, List.set_cons_succ]; rfl) rfl hlt
          · rfl
        · have h7 := h
          have e7 : γ 7 = .pointer (some ⟨lb, 0 + i * 4, none⟩) := h7
          refine ⟨_, rfl, ?_⟩
          refine predOp_val (v := .agg #[.int .u32 id, .int .i64 (i : Nat), .int .i64 (m : Nat), .slice da dn dc]) ?_ ?_ ?_
          · kernel_rfl
          · exact exec_load_mid (b := lb) (off := 0 + i * 4) (x := .tmp 56) (cs := [.int .u32 id, .int .i64 (i : Nat), .int .i64 (m : Nat), .slice da dn dc]) rfl (by simp only [putE, e7, Act.put, List.setIfInBounds_toArray, List.set_cons_zero, List.set_cons_succ]; rfl) (by rw [Nat.zero_add, ← HDC.out]; exact hS.2.1.range HIM.out) Try.underlying25 rfl info25s
          · rfl
        · obtain ⟨h4, h8⟩ := h
          have e4 : γ 4 = .agg #[.int .u32 id, .int .i64 (i : Nat), .int .i64 (m : Nat), .slice pa pn pc] := h4
          have e8 : γ 8 = .agg #[.int .u32 id, .int .i64 (i : Nat), .int .i64 (m : Nat), .slice da dn dc] := h8
          refine ⟨_, rfl, Or.inl ⟨rfl, predRun_call (f := 14) (args := #[.agg #[.int .u32 id, .int .i64 (i : Nat), .int .i64 (m : Nat), .slice pa pn pc], .agg #[.int .u32 id, .int .i64 (i : Nat), .int .i64 (m : Nat), .slice da dn dc]]) (by simp only [putE, e4, e8]; go_simp) ?_⟩⟩
          exact (same_any wx.heap.size wx.heap.size ⟨id, i, m, .slice pa pn pc, pieceL bl sz i⟩ ⟨id, i, m, .slice da dn dc, pieceL bl sz i⟩ wx (by have := hS.1.t _ (List.getElem_mem HIL.out); rw [HPV.out.1, HPV.out.2] at this; exact this) (by have := hS.2.1.text (List.getElem_mem HIM.out); rw [HDV.out.1, HDV.out.2] at this; exact this)).mono fun r w9 h9 => ⟨_, h9.1, by simp [sameB], h9.2⟩
        · have h9 := h
          have e9 : γ 9 = .bool true := h9
          refine ⟨_, rfl, ?_⟩
          refine predOp_val (v := .bool false) ?_ ?_ ?_
          · kernel_rfl
          · simp only [putE, e9]
            go_simp
          · rfl
      · intro γ w9 hS h
        have e10 : γ 10 = .bool false := h.2.2.2.2.2.2.2.2.2.2
        simp only [putE, Act.put, List.setIfInBounds_toArray, List.set_cons_zero, List.set_cons_succ]
        rw [e10]
        have HS1 := Kp.mk hS.1
        have HS2 := Kp.mk hS.2.1
        have HS3 := Kp.mk hS.2.2
        clear h hS e10
        refine wpOps_done ?_
        go_wp2_with fail
        exact ⟨⟨i + 1, by omega, by go_num, HS1, HS2, HS3⟩, by simp [intOf]; omega⟩
    · have hee : i = m := by omega
      have hle : ¬ (i : Int) < (m : Int) := by omega
      go_wp2_with fail
      go_ret
      exact ⟨rfl, HB.out⟩
end Go.Proofs.Ytlgcpfeaecpocaa
