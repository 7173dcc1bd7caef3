/-
  Credentials, to and fro.
-/
import Derived.Test.YtgabjmmmiogfjaaDoorFuJ
namespace Go.Proofs.YtgabjmmmiogfjaaDoor
open Go.RowKit

/-- A credential's cells. -/
def cc (lf : List Int) (a : Option Addr) (n c : Nat) (b : Option Addr) (m d : Nat) : List Value := bv lf ++ [.slice a n c, .slice b m d]
theorem cc_len {lf : List Int} (h : lf.length = 16) (a : Option Addr) (n c : Nat) (b : Option Addr) (m d : Nat) : (cc lf a n c b m d).length = 18 := by simp [cc, h]
theorem cc_16 {lf : List Int} (h : lf.length = 16) (a : Option Addr) (n c : Nat) (b : Option Addr) (m d : Nat) : (cc lf a n c b m d)[16]? = some (.slice a n c) := by simp [cc, List.getElem?_append, h]
theorem cc_17 {lf : List Int} (h : lf.length = 16) (a : Option Addr) (n c : Nat) (b : Option Addr) (m d : Nat) : (cc lf a n c b m d)[17]? = some (.slice b m d) := by simp [cc, List.getElem?_append, h]
theorem cc_one (lf : List Int) (a : Option Addr) (n c : Nat) (b : Option Addr) (m d : Nat) : (cc lf a n c b m d).toArray.all (·.oneCell') = true := by
  refine all_oneCell_toArray fun v hv => ?_
  unfold cc at hv
  rw [List.mem_append] at hv
  rcases hv with hv | hv
  · exact bv_one _ v hv
  · simp at hv
    rcases hv with rfl | rfl <;> rfl
theorem info103s {lf : List Int} (h : lf.length = 16) (a : Option Addr) (n c : Nat) (b : Option Addr) (m d : Nat) : (Tryd.prog.info? 103).map (·.size) = some (cc lf a n c b m d).toArray.size := by
  rw [List.size_toArray, cc_len h]
  kernel_rfl
theorem info113s {lf : List Int} (h : lf.length = 16) (a : Option Addr) (n c : Nat) (b : Option Addr) (m d : Nat) : (Tryd.prog.info? 113).map (·.size) = some (cc lf a n c b m d).toArray.size := by
  rw [List.size_toArray, cc_len h]
  kernel_rfl
theorem build113 {lf : List Int} (h : lf.length = 16) (a : Option Addr) (n c : Nat) (b : Option Addr) (m d : Nat) (w : World) : (Instr.build 113 #[(0, sumV lf), (1, .slice a n c), (2, .slice b m d)]).run Tryd.prog w = .ok (.agg (cc lf a n c b m d).toArray) w := by
  obtain ⟨y0, y1, y2, y3, y4, y5, y6, y7, y8, y9, y10, y11, y12, y13, y14, y15, rfl⟩ := list16 h
  exact run_build w 113 _ _ (by kernel_rfl)
theorem build103 {lf : List Int} (h : lf.length = 16) (a : Option Addr) (n c : Nat) (b : Option Addr) (m d : Nat) (w : World) : (Instr.build 103 #[(0, sumV lf), (1, .slice a n c), (2, .slice b m d)]).run Tryd.prog w = .ok (.agg (cc lf a n c b m d).toArray) w := by
  obtain ⟨y0, y1, y2, y3, y4, y5, y6, y7, y8, y9, y10, y11, y12, y13, y14, y15, rfl⟩ := list16 h
  exact run_build w 103 _ _ (by kernel_rfl)
theorem exec_build3 {P : Program} {o : Oper} {a : Act} {w : World} {t : TypeId} {x y z : Operand} {u v s r : Value} (ho : o.op = .build t #[(0, x), (1, y), (2, z)]) (hx : a.eval x = u) (hy : a.eval y = v) (hz : a.eval z = s)
    (hr : (Instr.build t #[(0, u), (1, v), (2, s)]).run P w = .ok r w) : (execOp a.eval o).run P w = .ok (.value r) w := by
  subst hx hy hz
  unfold execOp
  simp only [ho, Sem.run_bind, List.map_toArray, List.map_cons, List.map_nil, hr, Result.andThen_ok, Sem.run_pure]
def CredPost (t : TypeId) (lf : List Int) (wn : Nat) (wl : List Int) (pn : Nat) (pl : List Int) (w : World) (r : Ending) (w' : World) : Prop :=
  ∃ a c b d, r = .returned (.agg (cc lf a wn c b pn d).toArray) ∧ w'.ownsRow w.heap.size t 16 (.slice a wn c) wn (bv wl) ∧ w'.ownsRow w.heap.size t 16 (.slice b pn d) pn (bv pl) ∧ Below w.heap.size w w'
abbrev cz : List Value := cc (fill 16 []) none 0 0 none 0 0
theorem ex_worldU {Q : Exit → Act → World → Prop} {x : Exit} {a : Act} {w : World} (F : World → Prop) (hF : F w) (h : ∀ w2, F w2 → Q x a w2) : Q x a w := h w hF
set_option maxRecDepth 100000 in
set_option maxHeartbeats 8000000 in
theorem tocred_any (lf : List Int) (wa : Option Addr) (wn wc : Nat) (pa : Option Addr) (pn pc : Nat) (wl pl : List Int) (w : World) (hl : lf.length = 16) (hw : HoldsS w (.slice wa wn wc) wn wl) (hp : HoldsS w (.slice pa pn pc) pn pl) (hn : wn ≤ 1000000 ∧ pn ≤ 1000000) :
    Calls Tryd.prog 54 #[.agg (cc lf wa wn wc pa pn pc).toArray] w (CredPost 83 lf wn wl pn pl w) := by
  have hC := fun (w : World) => box_row (t := 103) (cs := cc lf wa wn wc pa pn pc) (info103s hl _ _ _ _ _ _) w
  obtain ⟨A, hA⟩ : ∃ A, A = w.heap.size := ⟨_, rfl⟩
  have HAe := Kp.mk hA
  have HLF := Kp.mk hl
  have HN := Kp.mk hn
  have H0 : Kp (Blk ((w.alloc (.cells (cc lf wa wn wc pa pn pc).toArray 103)).alloc (.cells cz.toArray 113)) A (.cells (cc lf wa wn wc pa pn pc).toArray 103) ∧ Blk ((w.alloc (.cells (cc lf wa wn wc pa pn pc).toArray 103)).alloc (.cells cz.toArray 113)) (A + 1) (.cells cz.toArray 113) ∧ HoldsS ((w.alloc (.cells (cc lf wa wn wc pa pn pc).toArray 103)).alloc (.cells cz.toArray 113)) (.slice wa wn wc) wn wl ∧ HoldsS ((w.alloc (.cells (cc lf wa wn wc pa pn pc).toArray 103)).alloc (.cells cz.toArray 113)) (.slice pa pn pc) pn pl ∧ Below A w ((w.alloc (.cells (cc lf wa wn wc pa pn pc).toArray 103)).alloc (.cells cz.toArray 113))) :=
    ⟨(Blk.newAt _ hA).old _, Blk.newAt _ (by simp [hA]), (hw.keep (more (Below.refl _ _) _)).keep (more (Below.refl _ _) _), (hp.keep (more (Below.refl _ _) _)).keep (more (Below.refl _ _) _), by rw [hA]; exact more (more (Below.refl _ _) _) _⟩
  clear hl hw hp hn
  go_enter Tryd.func54, Tryd.ntmps54
  go_wp2_with (refine wpList_box_eq rfl 103 (.tmp 0) rfl _ rfl _ _ (hC _) ?_)
  rw [← hA]
  clear hA hC
  refine wp_world (fun W => Blk W A (.cells (cc lf wa wn wc pa pn pc).toArray 103) ∧ Blk W (A + 1) (.cells cz.toArray 113) ∧ HoldsS W (.slice wa wn wc) wn wl ∧ HoldsS W (.slice pa pn pc) pn pl ∧ Below A w W) H0.out ?_
  intro W hW
  have ST := Kp.mk hW
  clear hW H0
  refine wp_region_pred (fun w' => Blk w' A (.cells (cc lf wa wn wc pa pn pc).toArray 103) ∧ Blk w' (A + 1) (.cells cz.toArray 113) ∧ HoldsS w' (.slice wa wn wc) wn wl ∧ HoldsS w' (.slice pa pn pc) pn pl ∧ Below A w w') [0, 1, 2, 3, 4, 5, 6, 7, 8] [9]
    (fun ι w' v => match ι with
      | 0 => v = .pointer (some ⟨A, 0, none⟩)
      | 1 => v = sumV lf
      | 2 => v = .pointer (some ⟨A, 16, none⟩)
      | 3 => v = .slice wa wn wc
      | 5 => v = .pointer (some ⟨A, 17, none⟩)
      | 6 => v = .slice pa pn pc
      | 4 => ∃ a c, v = .slice a wn c ∧ w'.ownsRow (A + 2) 83 16 (.slice a wn c) wn (bv wl)
      | 7 => ∃ a c, v = .slice a pn c ∧ w'.ownsRow (A + 2) 83 16 (.slice a pn c) pn (bv pl)
      | 8 => ∃ a c b d, v = .agg (cc lf a wn c b pn d).toArray ∧ w'.ownsRow (A + 2) 83 16 (.slice a wn c) wn (bv wl) ∧ w'.ownsRow (A + 2) 83 16 (.slice b pn d) pn (bv pl)
      | _ => v = .bool true)
    [[], [(0, some 3)], [], [(2, some 5)], [(3, some 6)], [], [(5, some 8)], [(4, some 7), (6, some 9)], [(1, some 4), (4, some 7), (7, some 10)]]
    [(0, some 3), (1, some 4), (2, some 5), (3, some 6), (4, some 7), (5, some 8), (6, some 9), (7, some 10), (8, some 11)]
    (by kernel_rfl) (by kernel_rfl) (by kernel_rfl) (by kernel_rfl) (by kernel_rfl) (by kernel_rfl) (by decide) (by decide) (fun w1 w2 h hb => ⟨h.1.keep hb, h.2.1.keep hb, h.2.2.1.keep hb, h.2.2.2.1.keep hb, h.2.2.2.2.trans (hb.mono (Nat.le_of_lt h.1.lt))⟩) ?_ ⟨ST.out.1.keep (Below.refl _ _).drew, ST.out.2.1.keep (Below.refl _ _).drew, ST.out.2.2.1.keep (Below.refl _ _).drew, ST.out.2.2.2.1.keep (Below.refl _ _).drew, ST.out.2.2.2.2.drew⟩ ?_ ?_
  · intro ι w1 w2 v h hb
    by_cases h4 : ι = 4
    · subst h4
      exact (by obtain ⟨a, c, e, hg⟩ := h; exact ⟨a, c, e, ownsRow_below hg hb⟩)
    by_cases h7 : ι = 7
    · subst h7
      exact (by obtain ⟨a, c, e, hg⟩ := h; exact ⟨a, c, e, ownsRow_below hg hb⟩)
    by_cases h8 : ι = 8
    · subst h8
      exact (by obtain ⟨a, c, b, d, e, hg, hk⟩ := h; exact ⟨a, c, b, d, e, ownsRow_below hg hb, ownsRow_below hk hb⟩)
    match ι, h4, h7, h8, h with
    | 0, _, _, _, h => exact h
    | 1, _, _, _, h => exact h
    | 2, _, _, _, h => exact h
    | 3, _, _, _, h => exact h
    | 4, g, _, _, h => exact absurd rfl g
    | 5, _, _, _, h => exact h
    | 6, _, _, _, h => exact h
    | 7, _, g, _, h => exact absurd rfl g
    | 8, _, _, g, h => exact absurd rfl g
    | _ + 9, _, _, _, h => exact h
  · refine ⟨fun γ wx hS h => ?_, fun γ wx hS h => ?_, fun γ wx hS h => ?_, fun γ wx hS h => ?_, fun γ wx hS h => ?_, fun γ wx hS h => ?_, fun γ wx hS h => ?_, fun γ wx hS h => ?_, fun γ wx hS h => ?_, trivial⟩
    · refine ⟨_, rfl, Or.inl ⟨rfl, predRun_value (v := .pointer (some ⟨A, 0, none⟩)) (by simp only [putE]; first | rfl | (go_simp; done) | (go_simp; with_reducible rfl) | (go_simp; rfl)) rfl⟩⟩
    · have h0 := h
      have e0 : γ 0 = .pointer (some ⟨A, 0, none⟩) := h0
      refine ⟨_, rfl, ?_⟩
      refine predOp_val (v := sumV lf) ?_ ?_ ?_
      · kernel_rfl
      · exact exec_load_mid (x := .tmp 3) (b := A) (off := 0) (cs := bv lf) rfl (by simp only [putE, e0]; rfl) (fun j u hu => by rw [Nat.zero_add, hS.1.cell j, List.getElem?_toArray]; unfold cc; rw [List.getElem?_append_left (by have := (List.getElem?_eq_some_iff.1 hu).1; exact this)]; exact hu) Tryd.underlying40 rfl (cellsL42 HLF.out)
      · rfl
    · refine ⟨_, rfl, Or.inl ⟨rfl, predRun_value (v := .pointer (some ⟨A, 16, none⟩)) (by simp only [putE]; first | rfl | (go_simp; done) | (go_simp; with_reducible rfl) | (go_simp; rfl)) rfl⟩⟩
    · have h2 := h
      have e2 : γ 2 = .pointer (some ⟨A, 16, none⟩) := h2
      refine ⟨_, rfl, ?_⟩
      refine predOp_val (v := .slice wa wn wc) ?_ ?_ ?_
      · kernel_rfl
      · have c16 : wx.cell? ⟨A, 16, none⟩ = some (.slice wa wn wc) := (hS.1.cell 16).trans (by rw [List.getElem?_toArray]; exact cc_16 HLF.out _ _ _ _ _ _)
        simp only [putE, e2]
        go_simp
      · rfl
    · have h3 := h
      have e3 : γ 3 = .slice wa wn wc := h3
      refine ⟨_, rfl, Or.inl ⟨rfl, predRun_call (f := 91) (args := #[.slice wa wn wc]) (by simp only [putE, e3]; go_simp) ?_⟩⟩
      exact (sto_any (.slice wa wn wc) wn wl wx hS.2.2.1 HN.out.1).mono fun r w9 ⟨v9, h1, h2, h3⟩ => by
        obtain ⟨a9, c9, rfl⟩ := row_shapeU h2
        exact ⟨_, h1, ⟨a9, c9, rfl, ownsRow_base h2 (by have := hS.2.1.lt; omega)⟩, h3⟩
    · refine ⟨_, rfl, Or.inl ⟨rfl, predRun_value (v := .pointer (some ⟨A, 17, none⟩)) (by simp only [putE]; first | rfl | (go_simp; done) | (go_simp; with_reducible rfl) | (go_simp; rfl)) rfl⟩⟩
    · have h5 := h
      have e5 : γ 5 = .pointer (some ⟨A, 17, none⟩) := h5
      refine ⟨_, rfl, ?_⟩
      refine predOp_val (v := .slice pa pn pc) ?_ ?_ ?_
      · kernel_rfl
      · have c17 : wx.cell? ⟨A, 17, none⟩ = some (.slice pa pn pc) := (hS.1.cell 17).trans (by rw [List.getElem?_toArray]; exact cc_17 HLF.out _ _ _ _ _ _)
        simp only [putE, e5]
        go_simp
      · rfl
    · obtain ⟨h4, h6⟩ := h
      have p4 : ∃ a c, (γ 4) = .slice a wn c ∧ wx.ownsRow (A + 2) 83 16 (.slice a wn c) wn (bv wl) := h4
      have e6 : γ 6 = .slice pa pn pc := h6
      refine ⟨_, rfl, Or.inl ⟨rfl, predRun_call (f := 91) (args := #[.slice pa pn pc]) (by simp only [putE, e6]; go_simp) ?_⟩⟩
      exact (sto_any (.slice pa pn pc) pn pl wx hS.2.2.2.1 HN.out.2).mono fun r w9 ⟨v9, h1, h2, h3⟩ => by
        obtain ⟨a9, c9, rfl⟩ := row_shapeU h2
        exact ⟨_, h1, ⟨a9, c9, rfl, ownsRow_base h2 (by have := hS.2.1.lt; omega)⟩, h3⟩
    · obtain ⟨h1, h4, h7⟩ := h
      have e1 : γ 1 = sumV lf := h1
      have p4 : ∃ a c, (γ 4) = .slice a wn c ∧ wx.ownsRow (A + 2) 83 16 (.slice a wn c) wn (bv wl) := h4
      have p7 : ∃ a c, (γ 7) = .slice a pn c ∧ wx.ownsRow (A + 2) 83 16 (.slice a pn c) pn (bv pl) := h7
      obtain ⟨a4, c4, e4, h4⟩ := p4
      obtain ⟨a7, c7, e7, h7⟩ := p7
      refine ⟨_, rfl, ?_⟩
      refine predOp_val (v := .agg (cc lf a4 wn c4 a7 pn c7).toArray) ?_ ?_ ?_
      · kernel_rfl
      · exact exec_build3 (x := .tmp 4) (y := .tmp 7) (z := .tmp 10) rfl (by simp only [putE, e1, e4, e7]; rfl) (by simp only [putE, e1, e4, e7]; rfl) (by simp only [putE, e1, e4, e7]; rfl) (build113 HLF.out a4 wn c4 a7 pn c7 wx)
      · exact ⟨a4, c4, a7, c7, rfl, h4, h7⟩
  · intro γ w9 hS h
    obtain ⟨a8, c8, b8, d8, e8, h4, h7⟩ := h.2.2.2.2.2.2.2.2
    simp only [putE, Act.put, List.setIfInBounds_toArray, List.set_cons_zero, List.set_cons_succ]
    rw [e8]
    have S9 := Kp.mk hS
    have H9 := Kp.mk (And.intro h4 h7)
    clear h hS e8 h4 h7
    generalize γ 0 = y0
    generalize γ 1 = y1
    generalize γ 2 = y2
    generalize γ 3 = y3
    generalize γ 4 = y4
    generalize γ 5 = y5
    generalize γ 6 = y6
    generalize γ 7 = y7
    refine wpOps_step rfl rfl ?_
    refine wp_store_rowD rfl 113 (.tmp 2) (.tmp 11) rfl (A + 1) (cc lf a8 wn c8 b8 pn d8).toArray rfl rfl 113 _ S9.out.2.1 (info113s HLF.out _ _ _ _ _ _) (by rw [List.size_toArray, List.size_toArray, cc_len rfl, cc_len HLF.out]) (cc_one _ _ _ _ _ _ _) ?_
    refine wpOps_done ?_
    have hT := Turn.ofRow S9.out.2.1 (cc lf a8 wn c8 b8 pn d8).toArray
    refine ex_worldU (fun W => Blk W (A + 1) (.cells (cc lf a8 wn c8 b8 pn d8).toArray 113) ∧ W.ownsRow (A + 2) 83 16 (.slice a8 wn c8) wn (bv wl) ∧ W.ownsRow (A + 2) 83 16 (.slice b8 pn d8) pn (bv pl) ∧ Below A w W) ⟨hT.blk, ownsRow_turn H9.out.1 hT (by omega), ownsRow_turn H9.out.2 hT (by omega), S9.out.2.2.2.2.trans (hT.below (by omega) (Nat.le_of_lt S9.out.1.lt))⟩ ?_
    rintro W9 hW
    have G9 := Kp.mk hW
    clear hW hT S9 H9
    go_wp2_with fail
    exact bodyPost_ret (results_row rfl _ _ (A + 1) 113 (cc lf a8 wn c8 b8 pn d8).toArray (0, 0) _ rfl G9.out.1 Tryd.underlying113 rfl (info113s HLF.out _ _ _ _ _ _)) rfl ⟨a8, c8, b8, d8, rfl, ownsRow_base G9.out.2.1 (by have := HAe.out; omega), ownsRow_base G9.out.2.2.1 (by have := HAe.out; omega), by rw [← HAe.out]; exact G9.out.2.2.2⟩
set_option maxRecDepth 100000 in
set_option maxHeartbeats 8000000 in
theorem fromcred_any (lf : List Int) (wa : Option Addr) (wn wc : Nat) (pa : Option Addr) (pn pc : Nat) (wl pl : List Int) (w : World) (hl : lf.length = 16) (hw : HoldsS w (.slice wa wn wc) wn wl) (hp : HoldsS w (.slice pa pn pc) pn pl) (hn : wn ≤ 1000000 ∧ pn ≤ 1000000) :
    Calls Tryd.prog 68 #[.agg (cc lf wa wn wc pa pn pc).toArray] w (CredPost 40 lf wn wl pn pl w) := by
  have hC := fun (w : World) => box_row (t := 113) (cs := cc lf wa wn wc pa pn pc) (info113s hl _ _ _ _ _ _) w
  obtain ⟨A, hA⟩ : ∃ A, A = w.heap.size := ⟨_, rfl⟩
  have HAe := Kp.mk hA
  have HLF := Kp.mk hl
  have HN := Kp.mk hn
  have H0 : Kp (Blk ((w.alloc (.cells (cc lf wa wn wc pa pn pc).toArray 113)).alloc (.cells cz.toArray 103)) A (.cells (cc lf wa wn wc pa pn pc).toArray 113) ∧ Blk ((w.alloc (.cells (cc lf wa wn wc pa pn pc).toArray 113)).alloc (.cells cz.toArray 103)) (A + 1) (.cells cz.toArray 103) ∧ HoldsS ((w.alloc (.cells (cc lf wa wn wc pa pn pc).toArray 113)).alloc (.cells cz.toArray 103)) (.slice wa wn wc) wn wl ∧ HoldsS ((w.alloc (.cells (cc lf wa wn wc pa pn pc).toArray 113)).alloc (.cells cz.toArray 103)) (.slice pa pn pc) pn pl ∧ Below A w ((w.alloc (.cells (cc lf wa wn wc pa pn pc).toArray 113)).alloc (.cells cz.toArray 103))) :=
    ⟨(Blk.newAt _ hA).old _, Blk.newAt _ (by simp [hA]), (hw.keep (more (Below.refl _ _) _)).keep (more (Below.refl _ _) _), (hp.keep (more (Below.refl _ _) _)).keep (more (Below.refl _ _) _), by rw [hA]; exact more (more (Below.refl _ _) _) _⟩
  clear hl hw hp hn
  go_enter Tryd.func68, Tryd.ntmps68
  go_wp2_with (refine wpList_box_eq rfl 113 (.tmp 0) rfl _ rfl _ _ (hC _) ?_)
  rw [← hA]
  clear hA hC
  refine wp_world (fun W => Blk W A (.cells (cc lf wa wn wc pa pn pc).toArray 113) ∧ Blk W (A + 1) (.cells cz.toArray 103) ∧ HoldsS W (.slice wa wn wc) wn wl ∧ HoldsS W (.slice pa pn pc) pn pl ∧ Below A w W) H0.out ?_
  intro W hW
  have ST := Kp.mk hW
  clear hW H0
  refine wp_region_pred (fun w' => Blk w' A (.cells (cc lf wa wn wc pa pn pc).toArray 113) ∧ Blk w' (A + 1) (.cells cz.toArray 103) ∧ HoldsS w' (.slice wa wn wc) wn wl ∧ HoldsS w' (.slice pa pn pc) pn pl ∧ Below A w w') [0, 1, 2, 3, 4, 5, 6, 7, 8] [9]
    (fun ι w' v => match ι with
      | 0 => v = .pointer (some ⟨A, 0, none⟩)
      | 1 => v = sumV lf
      | 2 => v = .pointer (some ⟨A, 16, none⟩)
      | 3 => v = .slice wa wn wc
      | 5 => v = .pointer (some ⟨A, 17, none⟩)
      | 6 => v = .slice pa pn pc
      | 4 => ∃ a c, v = .slice a wn c ∧ w'.ownsRow (A + 2) 40 16 (.slice a wn c) wn (bv wl)
      | 7 => ∃ a c, v = .slice a pn c ∧ w'.ownsRow (A + 2) 40 16 (.slice a pn c) pn (bv pl)
      | 8 => ∃ a c b d, v = .agg (cc lf a wn c b pn d).toArray ∧ w'.ownsRow (A + 2) 40 16 (.slice a wn c) wn (bv wl) ∧ w'.ownsRow (A + 2) 40 16 (.slice b pn d) pn (bv pl)
      | _ => v = .bool true)
    [[], [(0, some 3)], [], [(2, some 5)], [(3, some 6)], [], [(5, some 8)], [(4, some 7), (6, some 9)], [(1, some 4), (4, some 7), (7, some 10)]]
    [(0, some 3), (1, some 4), (2, some 5), (3, some 6), (4, some 7), (5, some 8), (6, some 9), (7, some 10), (8, some 11)]
    (by kernel_rfl) (by kernel_rfl) (by kernel_rfl) (by kernel_rfl) (by kernel_rfl) (by kernel_rfl) (by decide) (by decide) (fun w1 w2 h hb => ⟨h.1.keep hb, h.2.1.keep hb, h.2.2.1.keep hb, h.2.2.2.1.keep hb, h.2.2.2.2.trans (hb.mono (Nat.le_of_lt h.1.lt))⟩) ?_ ⟨ST.out.1.keep (Below.refl _ _).drew, ST.out.2.1.keep (Below.refl _ _).drew, ST.out.2.2.1.keep (Below.refl _ _).drew, ST.out.2.2.2.1.keep (Below.refl _ _).drew, ST.out.2.2.2.2.drew⟩ ?_ ?_
  · intro ι w1 w2 v h hb
    by_cases h4 : ι = 4
    · subst h4
      exact (by obtain ⟨a, c, e, hg⟩ := h; exact ⟨a, c, e, ownsRow_below hg hb⟩)
    by_cases h7 : ι = 7
    · subst h7
      exact (by obtain ⟨a, c, e, hg⟩ := h; exact ⟨a, c, e, ownsRow_below hg hb⟩)
    by_cases h8 : ι = 8
    · subst h8
      exact (by obtain ⟨a, c, b, d, e, hg, hk⟩ := h; exact ⟨a, c, b, d, e, ownsRow_below hg hb, ownsRow_below hk hb⟩)
    match ι, h4, h7, h8, h with
    | 0, _, _, _, h => exact h
    | 1, _, _, _, h => exact h
    | 2, _, _, _, h => exact h
    | 3, _, _, _, h => exact h
    | 4, g, _, _, h => exact absurd rfl g
    | 5, _, _, _, h => exact h
    | 6, _, _, _, h => exact h
    | 7, _, g, _, h => exact absurd rfl g
    | 8, _, _, g, h => exact absurd rfl g
    | _ + 9, _, _, _, h => exact h
  · refine ⟨fun γ wx hS h => ?_, fun γ wx hS h => ?_, fun γ wx hS h => ?_, fun γ wx hS h => ?_, fun γ wx hS h => ?_, fun γ wx hS h => ?_, fun γ wx hS h => ?_, fun γ wx hS h => ?_, fun γ wx hS h => ?_, trivial⟩
    · refine ⟨_, rfl, Or.inl ⟨rfl, predRun_value (v := .pointer (some ⟨A, 0, none⟩)) (by simp only [putE]; first | rfl | (go_simp; done) | (go_simp; with_reducible rfl) | (go_simp; rfl)) rfl⟩⟩
    · have h0 := h
      have e0 : γ 0 = .pointer (some ⟨A, 0, none⟩) := h0
      refine ⟨_, rfl, ?_⟩
      refine predOp_val (v := sumV lf) ?_ ?_ ?_
      · kernel_rfl
      · exact exec_load_mid (x := .tmp 3) (b := A) (off := 0) (cs := bv lf) rfl (by simp only [putE, e0]; rfl) (fun j u hu => by rw [Nat.zero_add, hS.1.cell j, List.getElem?_toArray]; unfold cc; rw [List.getElem?_append_left (by have := (List.getElem?_eq_some_iff.1 hu).1; exact this)]; exact hu) Tryd.underlying83 rfl (cellsL51 HLF.out)
      · rfl
    · refine ⟨_, rfl, Or.inl ⟨rfl, predRun_value (v := .pointer (some ⟨A, 16, none⟩)) (by simp only [putE]; first | rfl | (go_simp; done) | (go_simp; with_reducible rfl) | (go_simp; rfl)) rfl⟩⟩
    · have h2 := h
      have e2 : γ 2 = .pointer (some ⟨A, 16, none⟩) := h2
      refine ⟨_, rfl, ?_⟩
      refine predOp_val (v := .slice wa wn wc) ?_ ?_ ?_
      · kernel_rfl
      · have c16 : wx.cell? ⟨A, 16, none⟩ = some (.slice wa wn wc) := (hS.1.cell 16).trans (by rw [List.getElem?_toArray]; exact cc_16 HLF.out _ _ _ _ _ _)
        simp only [putE, e2]
        go_simp
      · rfl
    · have h3 := h
      have e3 : γ 3 = .slice wa wn wc := h3
      refine ⟨_, rfl, Or.inl ⟨rfl, predRun_call (f := 97) (args := #[.slice wa wn wc]) (by simp only [putE, e3]; go_simp) ?_⟩⟩
      exact (sfrom_any (.slice wa wn wc) wn wl wx hS.2.2.1 HN.out.1).mono fun r w9 ⟨v9, h1, h2, h3⟩ => by
        obtain ⟨a9, c9, rfl⟩ := row_shapeU h2
        exact ⟨_, h1, ⟨a9, c9, rfl, ownsRow_base h2 (by have := hS.2.1.lt; omega)⟩, h3⟩
    · refine ⟨_, rfl, Or.inl ⟨rfl, predRun_value (v := .pointer (some ⟨A, 17, none⟩)) (by simp only [putE]; first | rfl | (go_simp; done) | (go_simp; with_reducible rfl) | (go_simp; rfl)) rfl⟩⟩
    · have h5 := h
      have e5 : γ 5 = .pointer (some ⟨A, 17, none⟩) := h5
      refine ⟨_, rfl, ?_⟩
      refine predOp_val (v := .slice pa pn pc) ?_ ?_ ?_
      · kernel_rfl
      · have c17 : wx.cell? ⟨A, 17, none⟩ = some (.slice pa pn pc) := (hS.1.cell 17).trans (by rw [List.getElem?_toArray]; exact cc_17 HLF.out _ _ _ _ _ _)
        simp only [putE, e5]
        go_simp
      · rfl
    · obtain ⟨h4, h6⟩ := h
      have p4 : ∃ a c, (γ 4) = .slice a wn c ∧ wx.ownsRow (A + 2) 40 16 (.slice a wn c) wn (bv wl) := h4
      have e6 : γ 6 = .slice pa pn pc := h6
      refine ⟨_, rfl, Or.inl ⟨rfl, predRun_call (f := 97) (args := #[.slice pa pn pc]) (by simp only [putE, e6]; go_simp) ?_⟩⟩
      exact (sfrom_any (.slice pa pn pc) pn pl wx hS.2.2.2.1 HN.out.2).mono fun r w9 ⟨v9, h1, h2, h3⟩ => by
        obtain ⟨a9, c9, rfl⟩ := row_shapeU h2
        exact ⟨_, h1, ⟨a9, c9, rfl, ownsRow_base h2 (by have := hS.2.1.lt; omega)⟩, h3⟩
    · obtain ⟨h1, h4, h7⟩ := h
      have e1 : γ 1 = sumV lf := h1
      have p4 : ∃ a c, (γ 4) = .slice a wn c ∧ wx.ownsRow (A + 2) 40 16 (.slice a wn c) wn (bv wl) := h4
      have p7 : ∃ a c, (γ 7) = .slice a pn c ∧ wx.ownsRow (A + 2) 40 16 (.slice a pn c) pn (bv pl) := h7
      obtain ⟨a4, c4, e4, h4⟩ := p4
      obtain ⟨a7, c7, e7, h7⟩ := p7
      refine ⟨_, rfl, ?_⟩
      refine predOp_val (v := .agg (cc lf a4 wn c4 a7 pn c7).toArray) ?_ ?_ ?_
      · kernel_rfl
      · exact exec_build3 (x := .tmp 4) (y := .tmp 7) (z := .tmp 10) rfl (by simp only [putE, e1, e4, e7]; rfl) (by simp only [putE, e1, e4, e7]; rfl) (by simp only [putE, e1, e4, e7]; rfl) (build103 HLF.out a4 wn c4 a7 pn c7 wx)
      · exact ⟨a4, c4, a7, c7, rfl, h4, h7⟩
  · intro γ w9 hS h
    obtain ⟨a8, c8, b8, d8, e8, h4, h7⟩ := h.2.2.2.2.2.2.2.2
    simp only [putE, Act.put, List.setIfInBounds_toArray, List.set_cons_zero, List.set_cons_succ]
    rw [e8]
    have S9 := Kp.mk hS
    have H9 := Kp.mk (And.intro h4 h7)
    clear h hS e8 h4 h7
    generalize γ 0 = y0
    generalize γ 1 = y1
    generalize γ 2 = y2
    generalize γ 3 = y3
    generalize γ 4 = y4
    generalize γ 5 = y5
    generalize γ 6 = y6
    generalize γ 7 = y7
    refine wpOps_step rfl rfl ?_
    refine wp_store_rowD rfl 103 (.tmp 2) (.tmp 11) rfl (A + 1) (cc lf a8 wn c8 b8 pn d8).toArray rfl rfl 103 _ S9.out.2.1 (info103s HLF.out _ _ _ _ _ _) (by rw [List.size_toArray, List.size_toArray, cc_len rfl, cc_len HLF.out]) (cc_one _ _ _ _ _ _ _) ?_
    refine wpOps_done ?_
    have hT := Turn.ofRow S9.out.2.1 (cc lf a8 wn c8 b8 pn d8).toArray
    refine ex_worldU (fun W => Blk W (A + 1) (.cells (cc lf a8 wn c8 b8 pn d8).toArray 103) ∧ W.ownsRow (A + 2) 40 16 (.slice a8 wn c8) wn (bv wl) ∧ W.ownsRow (A + 2) 40 16 (.slice b8 pn d8) pn (bv pl) ∧ Below A w W) ⟨hT.blk, ownsRow_turn H9.out.1 hT (by omega), ownsRow_turn H9.out.2 hT (by omega), S9.out.2.2.2.2.trans (hT.below (by omega) (Nat.le_of_lt S9.out.1.lt))⟩ ?_
    rintro W9 hW
    have G9 := Kp.mk hW
    clear hW hT S9 H9
    go_wp2_with fail
    exact bodyPost_ret (results_row rfl _ _ (A + 1) 103 (cc lf a8 wn c8 b8 pn d8).toArray (0, 0) _ rfl G9.out.1 Tryd.underlying103 rfl (info103s HLF.out _ _ _ _ _ _)) rfl ⟨a8, c8, b8, d8, rfl, ownsRow_base G9.out.2.1 (by have := HAe.out; omega), ownsRow_base G9.out.2.2.1 (by have := HAe.out; omega), by rw [← HAe.out]; exact G9.out.2.2.2⟩
end Go.Proofs.YtgabjmmmiogfjaaDoor
