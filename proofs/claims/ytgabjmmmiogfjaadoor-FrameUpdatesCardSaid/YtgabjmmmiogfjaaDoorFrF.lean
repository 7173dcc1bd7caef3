/-
  append to an empty row; a frame as the program's.
-/
import Derived.Test.YtgabjmmmiogfjaaDoorFrE
import Derived.ArgAppend
namespace Go.Proofs.YtgabjmmmiogfjaaDoor
open Go.RowKit

set_option maxRecDepth 100000 in
theorem app_run2 (w : World) (g B : Nat) (hg : Blk w g (.cells #[] 5)) (hB : B ≤ g) (hBw : B ≤ w.heap.size) (M : Nat) (pa : Option Addr) (pn pc : Nat) (p : List Int) (hp : HoldsB w M (.slice pa pn pc) p) (hlen : p.length ≤ 140737488351232) :
    ∃ v' w', (Builtin.append_ #[24, 24] 24 #[.slice (some ⟨g, 0, none⟩) 0 0, .slice pa pn pc]).run Tryd.prog w = .ok v' w' ∧ Below w.heap.size w w' ∧ ∃ a' c', v' = .slice a' pn c' ∧ w'.ownsRow B 5 1 v' p.length (bv p) := by
  obtain ⟨i0, hi, hz0, hz1, hz2⟩ := info_parts info5
  obtain ⟨ad, m, cap, e0, hm⟩ := hp.slice
  simp only [Value.slice.injEq] at e0
  obtain ⟨rfl, rfl, rfl⟩ := e0
  by_cases h0 : p = []
  · subst h0
    have hm0 : pn = 0 := by simpa using hm
    subst hm0
    have ho : w.ownsRow B 5 1 (.slice (some ⟨g, 0, none⟩) 0 0) 0 [] := ⟨rfl, .inr ⟨g, 0, #[], rfl, hB, hg, Nat.le_refl _, by unfold maxLen; omega, rfl, rfl⟩⟩
    refine ⟨.slice (some ⟨g, 0, none⟩) 0 0, w, ?_, Below.refl _ _, _, _, rfl, ho⟩
    cases pa with
    | none =>
      obtain ⟨_, _, e, _, _, hc, _⟩ := hp
      simp only [Value.slice.injEq] at e
      have := hc e.1.symm
      rw [e.2.2, this]
      exact run_append_owned_none (w := w) g 24 24 5 i0 1 Tryd.underlying24 hi _ 0 [] ⟨rfl, .inr ⟨g, 0, #[], rfl, Nat.le_refl _, hg, Nat.le_refl _, by unfold maxLen; omega, rfl, rfl⟩⟩
    | some ad =>
      have hf := run_firstCells_some (P := Tryd.prog) w i0.size 0 ad 0 pc [] (by simp) (by simp)
      simp [Builtin.append_, run_underlying Tryd.underlying24, sizeOf, typeInfo, hi, Builtin.lenOf, hf, storeCells]
  · have hpos : 0 < p.length := by cases p with | nil => exact absurd rfl h0 | cons => simp
    subst hm
    cases pa with
    | none =>
      obtain ⟨_, _, e, hle, _, hc, _⟩ := hp
      simp only [Value.slice.injEq] at e
      have := hc e.1.symm
      omega
    | some ad =>
      obtain ⟨v', w', hrun, r1, r2⟩ := run_append_arg_grows (P := Tryd.prog) w 24 24 5 i0 (.int .u8 0) 1 1 Tryd.underlying24 hi hz0 hz1 hz2 rfl (by decide) ⟨g, 0, none⟩ 0 0 [] rfl (fun j u h => by simp at h) ad p.length pc (bv p) (by rw [bv_len]) hp.news (by omega) (by unfold maxLen; omega) (by omega)
      rw [Nat.zero_add, List.nil_append] at r1
      have r3 := ownsRow_base r1 hBw
      obtain ⟨hx, hy⟩ := r3
      rcases hy with ⟨e, h0'⟩ | ⟨g', cap', cur', e, hr⟩
      · omega
      · exact ⟨v', w', hrun, ⟨r2.os, r2.tape, r2.output, r2.size, fun k hk => r2.block k hk (by simp)⟩, _, _, e, hx, .inr ⟨g', cap', cur', e, hr⟩⟩
theorem exec_append {o : Oper} {a : Act} {w w' : World} {s x : Operand} {u v v' : Value} (ho : o.op = .call { callee := .builtin .append, args := #[s, x], argTypes := #[24, 24] })
    (hs : a.eval s = v) (hx : a.eval x = u) (hr : (Builtin.append_ #[24, 24] o.type #[v, u]).run Tryd.prog w = .ok v' w') : (execOp a.eval o).run Tryd.prog w = .ok (.value v') w' := by
  unfold execOp
  simp only [ho, resolve, invoke, builtin, Sem.run_bind, Sem.run_pure, Result.andThen_ok, List.map_toArray, List.map_cons, List.map_nil, hs, hx, hr]
theorem results_row {P : Program} {fn : Func} {p : Tmp} {ty : TypeId} (h : fn.results = #[.cell p ty]) (tmps : Array Value) (w : World) (g : Nat) (t : TypeId) (cs : Array Value) (fr : Nat × Nat) (d : TypeDesc)
    (hp : tmps.getD p undef = .pointer (some ⟨g, 0, none⟩)) (hg : w.heap[g]? = some (.cells cs t fr))
    (hu : P.underlying ty = some d) (hd : (match d with | .struct _ | .array _ _ => true | _ => false) = true) (hi : (P.info? ty).map (·.size) = some cs.size) :
    (results fn tmps).run P w = .ok (.agg cs) w := by
  have hp' : tmps[p]?.getD undef = .pointer (some ⟨g, 0, none⟩) := by simpa using hp
  simp [results, h, hp', asAddr, run_loadVar_row w g t ty cs fr d hg hu hd hi]
theorem there6 {w : World} {F : Nat} {x0 x1 x2 x3 x4 x5 : Value} {t : TypeId} (h : Blk w F (.cells #[x0, x1, x2, x3, x4, x5] t)) : w.there F 0 6 := fun j hj => ⟨match j, hj with
  | 0, _ => by rw [h.cell 0]; rfl
  | 1, _ => by rw [h.cell 1]; rfl
  | 2, _ => by rw [h.cell 2]; rfl
  | 3, _ => by rw [h.cell 3]; rfl
  | 4, _ => by rw [h.cell 4]; rfl
  | 5, _ => by rw [h.cell 5]; rfl
  | j + 6, hj => absurd hj (by omega), h.frozen _⟩
theorem turn6 {w : World} {F : Nat} {x0 x1 x2 x3 x4 x5 : Value} {t : TypeId} (h : Blk w F (.cells #[x0, x1, x2, x3, x4, x5] t)) (y0 y1 y2 y3 y4 y5 : Value) : Turn F (.cells #[y0, y1, y2, y3, y4, y5] t) w (w.setCells F 0 [y0, y1, y2, y3, y4, y5]) := ((((((Turn.same h).set 0 _).set 1 _).set 2 _).set 3 _).set 4 _).set 5 _
theorem six_one (a b : Int) (c d e : Int) (x : Option Addr) (n k : Nat) : (#[.int .i64 a, .int .i64 b, .int .u64 c, .int .u64 d, .int .i64 e, .slice x n k] : Array Value).all (·.oneCell') = true :=
  all_oneCell_toArray (cs := [.int .i64 a, .int .i64 b, .int .u64 c, .int .u64 d, .int .i64 e, .slice x n k]) (by intro v hv; simp only [List.mem_cons, List.not_mem_nil, or_false] at hv; rcases hv with rfl | rfl | rfl | rfl | rfl | rfl <;> rfl)
abbrev RZ : Obj := .cells #[.int .i64 0, .int .i64 0, .int .u64 0, .int .u64 0, .int .i64 0, .slice none 0 0] 30
def ToPost (p : FV) (tp : List Int) (w : World) (r : Ending) (w' : World) : Prop :=
  ∃ a c, r = .returned (.agg #[.int .i64 p.fr, .int .i64 p.to, .int .u64 p.bo, .int .u64 p.co, .int .i64 p.ki, .slice a p.n c]) ∧ w'.ownsRow w.heap.size 5 1 (.slice a p.n c) tp.length (bv tp) ∧ Below w.heap.size w w'
set_option maxRecDepth 100000 in
set_option maxHeartbeats 4000000 in
theorem to_any (p : FV) (tp : List Int) (w : World) (h : HoldsB w w.heap.size (.slice p.a p.n p.c) tp) (hl : tp.length ≤ 140737488351232) : Calls Tryd.prog 9 #[p.v] w (ToPost p tp w) := by
  have H := Kp.mk h
  have HL := Kp.mk hl
  clear h hl
  go_enter Tryd.func9, Tryd.ntmps9
  go_wp2_with fail
  obtain ⟨F, hF⟩ : ∃ F, F = w.heap.size := ⟨_, rfl⟩
  have HFe := Kp.mk hF
  rw [← hF]
  refine wp_world (fun W => Blk W F (p.box 26) ∧ Blk W (F + 1) RZ ∧ Below F w W ∧ HoldsB W F (.slice p.a p.n p.c) tp ∧ F + 2 ≤ W.heap.size) ⟨(Blk.newAt _ hF).old _, Blk.newAt _ (by simp [hF]), (more (more (Below.refl _ _) _) _).mono (by omega), by rw [hF]; exact (H.out.alloc _).alloc _, by simp [hF]⟩ ?_
  rintro w1 ⟨h1, h2, h3, h4, h5⟩
  have HP1 := Kp.mk h1
  have HR1 := Kp.mk h2
  have HB1 := Kp.mk h3
  have HT1 := Kp.mk h4
  have HF2 := Kp.mk h5
  clear h1 h2 h3 h4 h5 hF
  refine wp_region_pred (fun w' => Blk w' F (p.box 26) ∧ HoldsB w' F (.slice p.a p.n p.c) tp ∧ Below F w w' ∧ Blk w' (F + 1) (RZ) ∧ F + 2 ≤ w'.heap.size) [0, 1, 2, 3, 4, 5, 6, 7, 8, 9, 10, 11, 12, 13, 14] [15]
    (fun ι w' v => match ι with
      | 0 => v = .pointer (some ⟨F, 0, none⟩)
      | 1 => v = .int .i64 p.fr
      | 2 => v = .pointer (some ⟨F, 1, none⟩)
      | 3 => v = .int .i64 p.to
      | 4 => v = .pointer (some ⟨F, 2, none⟩)
      | 5 => v = .int .u64 p.bo
      | 6 => v = .pointer (some ⟨F, 3, none⟩)
      | 7 => v = .int .u64 p.co
      | 8 => v = .pointer (some ⟨F, 4, none⟩)
      | 9 => v = .int .i64 p.ki
      | 11 => v = .pointer (some ⟨F, 5, none⟩)
      | 12 => v = .slice p.a p.n p.c
      | 10 => ∃ b, v = .slice (some ⟨b, 0, none⟩) 0 0 ∧ F + 2 ≤ b ∧ Blk w' b (.cells #[] 5)
      | 13 => ∃ a c, v = .slice a p.n c ∧ w'.ownsRow (F + 2) 5 1 (.slice a p.n c) tp.length (bv tp)
      | 14 => ∃ a c, v = .agg #[.int .i64 p.fr, .int .i64 p.to, .int .u64 p.bo, .int .u64 p.co, .int .i64 p.ki, .slice a p.n c] ∧ w'.ownsRow (F + 2) 5 1 (.slice a p.n c) tp.length (bv tp)
      | _ => v = .bool true)
    [[], [(0, some 3)], [], [(2, some 5)], [], [(4, some 7)], [], [(6, some 9)], [], [(8, some 11)], [], [], [(11, some 14)], [(10, some 13), (12, some 15)], [(1, some 4), (3, some 6), (5, some 8), (7, some 10), (9, some 12), (13, some 16)]]
    [(0, some 3), (1, some 4), (2, some 5), (3, some 6), (4, some 7), (5, some 8), (6, some 9), (7, some 10), (8, some 11), (9, some 12), (10, some 13), (11, some 14), (12, some 15), (13, some 16), (14, some 17)]
    (by kernel_rfl) (by kernel_rfl) (by kernel_rfl) (by kernel_rfl) (by kernel_rfl) (by kernel_rfl) (by decide) (by decide) (fun w1 w2 h hb => ⟨h.1.keep hb, h.2.1.keep hb, h.2.2.1.trans (hb.mono (Nat.le_trans (by omega) h.2.2.2.2)), h.2.2.2.1.keep hb, Nat.le_trans h.2.2.2.2 hb.size⟩) ?_ ⟨HP1.out.keep (Below.refl _ _).drew, HT1.out.keep (Below.refl _ _).drew, HB1.out.drew, HR1.out.keep (Below.refl _ _).drew, HF2.out⟩ ?_ ?_
  · intro ι w1 w2 v h hb
    by_cases h10 : ι = 10
    · subst h10
      exact (by obtain ⟨b, e, h1, hg⟩ := h; exact ⟨b, e, h1, hg.keep hb⟩)
    by_cases h13 : ι = 13
    · subst h13
      exact (by obtain ⟨a, c, e, h1⟩ := h; exact ⟨a, c, e, ownsRow_below h1 hb⟩)
    by_cases h14 : ι = 14
    · subst h14
      exact (by obtain ⟨a, c, e, h1⟩ := h; exact ⟨a, c, e, ownsRow_below h1 hb⟩)
    match ι, h10, h13, h14, h with
    | 0, _, _, _, h => exact h
    | 1, _, _, _, h => exact h
    | 2, _, _, _, h => exact h
    | 3, _, _, _, h => exact h
    | 4, _, _, _, h => exact h
    | 5, _, _, _, h => exact h
    | 6, _, _, _, h => exact h
    | 7, _, _, _, h => exact h
    | 8, _, _, _, h => exact h
    | 9, _, _, _, h => exact h
    | 10, g, _, _, h => exact absurd rfl g
    | 11, _, _, _, h => exact h
    | 12, _, _, _, h => exact h
    | 13, _, g, _, h => exact absurd rfl g
    | 14, _, _, g, h => exact absurd rfl g
    | _ + 15, _, _, _, h => exact h
  · refine ⟨fun γ wx hS h => ?_, fun γ wx hS h => ?_, fun γ wx hS h => ?_, fun γ wx hS h => ?_, fun γ wx hS h => ?_, fun γ wx hS h => ?_, fun γ wx hS h => ?_, fun γ wx hS h => ?_, fun γ wx hS h => ?_, fun γ wx hS h => ?_, fun γ wx hS h => ?_, fun γ wx hS h => ?_, fun γ wx hS h => ?_, fun γ wx hS h => ?_, fun γ wx hS h => ?_, trivial⟩
    · refine ⟨_, rfl, ?_⟩
      refine predOp_val (v := .pointer (some ⟨F, 0, none⟩)) ?_ ?_ ?_
      · kernel_rfl
      · simp only [putE]
        go_simp
      · rfl
    · have h0 := h
      have e0 : γ 0 = .pointer (some ⟨F, 0, none⟩) := h0
      have hcell : wx.cell? ⟨F, 0, none⟩ = some (.int .i64 p.fr) := hS.1.cell 0
      refine ⟨_, rfl, ?_⟩
      refine predOp_val (v := .int .i64 p.fr) ?_ ?_ ?_
      · kernel_rfl
      · simp only [putE, e0]
        go_simp
      · rfl
    · refine ⟨_, rfl, ?_⟩
      refine predOp_val (v := .pointer (some ⟨F, 1, none⟩)) ?_ ?_ ?_
      · kernel_rfl
      · simp only [putE]
        go_simp
      · rfl
    · have h2 := h
      have e2 : γ 2 = .pointer (some ⟨F, 1, none⟩) := h2
      have hcell : wx.cell? ⟨F, 1, none⟩ = some (.int .i64 p.to) := hS.1.cell 1
      refine ⟨_, rfl, ?_⟩
      refine predOp_val (v := .int .i64 p.to) ?_ ?_ ?_
      · kernel_rfl
      · simp only [putE, e2]
        go_simp
      · rfl
    · refine ⟨_, rfl, ?_⟩
      refine predOp_val (v := .pointer (some ⟨F, 2, none⟩)) ?_ ?_ ?_
      · kernel_rfl
      · simp only [putE]
        go_simp
      · rfl
    · have h4 := h
      have e4 : γ 4 = .pointer (some ⟨F, 2, none⟩) := h4
      have hcell : wx.cell? ⟨F, 2, none⟩ = some (.int .u64 p.bo) := hS.1.cell 2
      refine ⟨_, rfl, ?_⟩
      refine predOp_val (v := .int .u64 p.bo) ?_ ?_ ?_
      · kernel_rfl
      · simp only [putE, e4]
        go_simp
      · rfl
    · refine ⟨_, rfl, ?_⟩
      refine predOp_val (v := .pointer (some ⟨F, 3, none⟩)) ?_ ?_ ?_
      · kernel_rfl
      · simp only [putE]
        go_simp
      · rfl
    · have h6 := h
      have e6 : γ 6 = .pointer (some ⟨F, 3, none⟩) := h6
      have hcell : wx.cell? ⟨F, 3, none⟩ = some (.int .u64 p.co) := hS.1.cell 3
      refine ⟨_, rfl, ?_⟩
      refine predOp_val (v := .int .u64 p.co) ?_ ?_ ?_
      · kernel_rfl
      · simp only [putE, e6]
        go_simp
      · rfl
    · refine ⟨_, rfl, ?_⟩
      refine predOp_val (v := .pointer (some ⟨F, 4, none⟩)) ?_ ?_ ?_
      · kernel_rfl
      · simp only [putE]
        go_simp
      · rfl
    · have h8 := h
      have e8 : γ 8 = .pointer (some ⟨F, 4, none⟩) := h8
      have hcell : wx.cell? ⟨F, 4, none⟩ = some (.int .i64 p.ki) := hS.1.cell 4
      refine ⟨_, rfl, ?_⟩
      refine predOp_val (v := .int .i64 p.ki) ?_ ?_ ?_
      · kernel_rfl
      · simp only [putE, e8]
        go_simp
      · rfl
    · refine ⟨_, rfl, Or.inl ⟨?_, ?_⟩⟩
      · kernel_rfl
      · refine predRun_new (w' := wx.alloc (.cells #[] 5)) (v := .slice (some ⟨wx.heap.size, 0, none⟩) 0 0) ?_ (more (Below.refl _ _) _) ?_
        · simp only [putE]
          go_simp
        · exact ⟨_, rfl, hS.2.2.2.2, Blk.new _ _⟩
    · refine ⟨_, rfl, ?_⟩
      refine predOp_val (v := .pointer (some ⟨F, 5, none⟩)) ?_ ?_ ?_
      · kernel_rfl
      · simp only [putE]
        go_simp
      · rfl
    · have h11 := h
      have e11 : γ 11 = .pointer (some ⟨F, 5, none⟩) := h11
      have hcell : wx.cell? ⟨F, 5, none⟩ = some (.slice p.a p.n p.c) := hS.1.cell 5
      refine ⟨_, rfl, ?_⟩
      refine predOp_val (v := .slice p.a p.n p.c) ?_ ?_ ?_
      · kernel_rfl
      · simp only [putE, e11]
        go_simp
      · rfl
    · obtain ⟨h10, h12⟩ := h
      have p10 : ∃ b, (γ 10) = .slice (some ⟨b, 0, none⟩) 0 0 ∧ F + 2 ≤ b ∧ Blk wx b (.cells #[] 5) := h10
      have e12 : γ 12 = .slice p.a p.n p.c := h12
      obtain ⟨b, e10, h61, h62⟩ := p10
      obtain ⟨v', w', hr, hb, a', c', e9, ho⟩ := app_run2 wx b (F + 2) h62 h61 (by have := h62.lt; omega) F p.a p.n p.c tp hS.2.1 HL.out
      refine ⟨_, rfl, Or.inl ⟨?_, ?_⟩⟩
      · kernel_rfl
      · refine predRun_new (w' := w') (v := v') ?_ hb ⟨a', c', e9, ?_⟩
        · exact exec_append rfl (by simp only [putE, e10]; rfl) (by simp only [putE, e12]; rfl) hr
        · rw [← e9]; exact ho
    · obtain ⟨h1, h3, h5, h7, h9, h13⟩ := h
      have e1 : γ 1 = .int .i64 p.fr := h1
      have e3 : γ 3 = .int .i64 p.to := h3
      have e5 : γ 5 = .int .u64 p.bo := h5
      have e7 : γ 7 = .int .u64 p.co := h7
      have e9 : γ 9 = .int .i64 p.ki := h9
      have p13 : ∃ a c, (γ 13) = .slice a p.n c ∧ wx.ownsRow (F + 2) 5 1 (.slice a p.n c) tp.length (bv tp) := h13
      obtain ⟨a, c, e13, h9⟩ := p13
      refine ⟨_, rfl, ?_⟩
      refine predOp_val (v := .agg #[.int .i64 p.fr, .int .i64 p.to, .int .u64 p.bo, .int .u64 p.co, .int .i64 p.ki, .slice a p.n c]) ?_ ?_ ?_
      · kernel_rfl
      · simp only [putE, e1, e3, e5, e7, e9, e13]
        go_simp
      · exact ⟨a, c, rfl, h9⟩
  · intro γ w9 hS h
    obtain ⟨a, c, e14, h14⟩ : ∃ a c, γ 14 = .agg #[.int .i64 p.fr, .int .i64 p.to, .int .u64 p.bo, .int .u64 p.co, .int .i64 p.ki, .slice a p.n c] ∧ w9.ownsRow (F + 2) 5 1 (.slice a p.n c) tp.length (bv tp) := h.2.2.2.2.2.2.2.2.2.2.2.2.2.2
    simp only [putE, Act.put, List.setIfInBounds_toArray, List.set_cons_zero, List.set_cons_succ]
    rw [e14]
    have HTH : Kp (w9.there (F + 1) 0 6) := ⟨there6 hS.2.2.2.1⟩
    have HTU : Kp (Turn (F + 1) (.cells #[.int .i64 p.fr, .int .i64 p.to, .int .u64 p.bo, .int .u64 p.co, .int .i64 p.ki, .slice a p.n c] 30) w9 (w9.setCells (F + 1) 0 [.int .i64 p.fr, .int .i64 p.to, .int .u64 p.bo, .int .u64 p.co, .int .i64 p.ki, .slice a p.n c])) := ⟨((((((Turn.same hS.2.2.2.1).set 0 _).set 1 _).set 2 _).set 3 _).set 4 _).set 5 _⟩
    have H1C : Kp ((#[.int .i64 p.fr, .int .i64 p.to, .int .u64 p.bo, .int .u64 p.co, .int .i64 p.ki, .slice a p.n c] : Array Value).all (·.oneCell') = true) := ⟨six_one _ _ _ _ _ _ _ _⟩
    have HS3 := Kp.mk hS.2.2.1
    have HS5 := Kp.mk hS.2.2.2.2
    have HO := Kp.mk h14
    clear h hS e14 h14
    refine wpOps_step rfl rfl ?_
    refine wp_store_mid 30 (.tmp 2) (.tmp 17) rfl (F + 1) 0 #[.int .i64 p.fr, .int .i64 p.to, .int .u64 p.bo, .int .u64 p.co, .int .i64 p.ki, .slice a p.n c] ?hx ?hy ?ht info30s H1C.out ?_
    case hx => rfl
    case hy => rfl
    case ht => exact HTH.out
    obtain ⟨W5, hW5⟩ : ∃ W5, W5 = w9.setCells (F + 1) 0 [.int .i64 p.fr, .int .i64 p.to, .int .u64 p.bo, .int .u64 p.co, .int .i64 p.ki, .slice a p.n c] := ⟨_, rfl⟩
    rw [← hW5] at HTU
    rw [← hW5]
    clear hW5 HTH H1C
    refine wpOps_done ?_
    have HO5 : Kp (W5.ownsRow (F + 2) 5 1 (.slice a p.n c) tp.length (bv tp)) := ⟨ownsRow_turn HO.out HTU.out (by omega)⟩
    have HBE : Kp (Below F w W5) := ⟨HS3.out.trans (HTU.out.below (by omega) (by have := HS5.out; omega))⟩
    have HBR : Kp (W5.heap[F + 1]? = some (.cells #[.int .i64 p.fr, .int .i64 p.to, .int .u64 p.bo, .int .u64 p.co, .int .i64 p.ki, .slice a p.n c] 30)) := ⟨HTU.out.blk⟩
    clear HTU HS3 HS5 HO
    go_wp2_with fail
    exact bodyPost_ret (results_row rfl _ _ _ _ _ _ _ rfl HBR.out Tryd.underlying30 rfl info30s) rfl ⟨a, c, rfl, ownsRow_base HO5.out (by have := HFe.out; omega), by rw [← HFe.out]; exact HBE.out⟩
    
end Go.Proofs.YtgabjmmmiogfjaaDoor
