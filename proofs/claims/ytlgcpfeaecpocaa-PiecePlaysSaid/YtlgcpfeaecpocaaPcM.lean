/-
  append to an empty row; a piece as the program's; a nil joiner.
-/
import Derived.Test.YtlgcpfeaecpocaaPcL
import Derived.ArgAppend
namespace Go.Proofs.Ytlgcpfeaecpocaa
open Go.RowKit

set_option maxRecDepth 100000 in
theorem app_run2 (w : World) (g B : Nat) (hg : Blk w g (.cells #[] 5)) (hB : B ≤ g) (hBw : B ≤ w.heap.size) (M : Nat) (pa : Option Addr) (pn pc : Nat) (p : List Int) (hp : HoldsB w M (.slice pa pn pc) p) (hlen : p.length ≤ 140737488351232) :
    ∃ v' w', (Builtin.append_ #[23, 23] 23 #[.slice (some ⟨g, 0, none⟩) 0 0, .slice pa pn pc]).run Try.prog w = .ok v' w' ∧ Below w.heap.size w w' ∧ ∃ a' c', v' = .slice a' pn c' ∧ w'.ownsRow B 5 1 v' p.length (bv p) := by
  obtain ⟨i0, hi, hz0, hz1, hz2⟩ := info_parts info5
  obtain ⟨ad, m, cap, e0, hm⟩ := hp.slice
  simp only [Value.slice.injEq] at e0
  obtain ⟨rfl, rfl, rfl⟩ := e0
  by_cases h0 : p = []
  · subst h0
    have hm0 : pn = 0 := by simpa using hm
    subst hm0
    have ho : w.ownsRow B 5 1 (.slice (some ⟨g, 0, none⟩) 0 0) 0 [] := ⟨rfl, .inr ⟨g, 0, #[], rfl, hB, hg, Nat.le_refl _, by unfold maxLen; omega, rfl, rfl⟩⟩
    refine ⟨.slice (some ⟨g, 0, none⟩) 0 0, w, ?_, Below.refl _ _, _, _, rfl, ho⟩
    cases pa with
    | none =>
      obtain ⟨_, _, e, _, _, hc, _⟩ := hp
      simp only [Value.slice.injEq] at e
      have := hc e.1.symm
      rw [e.2.2, this]
      exact run_append_owned_none (w := w) g 23 23 5 i0 1 Try.underlying23 hi _ 0 [] ⟨rfl, .inr ⟨g, 0, #[], rfl, Nat.le_refl _, hg, Nat.le_refl _, by unfold maxLen; omega, rfl, rfl⟩⟩
    | some ad =>
      have hf := run_firstCells_some (P := Try.prog) w i0.size 0 ad 0 pc [] (by simp) (by simp)
      simp [Builtin.append_, run_underlying Try.underlying23, sizeOf, typeInfo, hi, Builtin.lenOf, hf, storeCells]
  · have hpos : 0 < p.length := by cases p with | nil => exact absurd rfl h0 | cons => simp
    subst hm
    cases pa with
    | none =>
      obtain ⟨_, _, e, hle, _, hc, _⟩ := hp
      simp only [Value.slice.injEq] at e
      have := hc e.1.symm
      omega
    | some ad =>
      obtain ⟨v', w', hrun, r1, r2⟩ := run_append_arg_grows (P := Try.prog) w 23 23 5 i0 (.int .u8 0) 1 1 Try.underlying23 hi hz0 hz1 hz2 rfl (by decide) ⟨g, 0, none⟩ 0 0 [] rfl (fun j u h => by simp at h) ad p.length pc (bv p) (by rw [bv_len]) hp.news (by omega) (by unfold maxLen; omega) (by omega)
      rw [Nat.zero_add, List.nil_append] at r1
      have r3 := ownsRow_base r1 hBw
      obtain ⟨hx, hy⟩ := r3
      rcases hy with ⟨e, h0'⟩ | ⟨g', cap', cur', e, hr⟩
      · omega
      · exact ⟨v', w', hrun, ⟨r2.os, r2.tape, r2.output, r2.size, fun k hk => r2.block k hk (by simp)⟩, _, _, e, hx, .inr ⟨g', cap', cur', e, hr⟩⟩
theorem exec_append {o : Oper} {a : Act} {w w' : World} {s x : Operand} {u v v' : Value} (ho : o.op = .call { callee := .builtin .append, args := #[s, x], argTypes := #[23, 23] })
    (hs : a.eval s = v) (hx : a.eval x = u) (hr : (Builtin.append_ #[23, 23] o.type #[v, u]).run Try.prog w = .ok v' w') : (execOp a.eval o).run Try.prog w = .ok (.value v') w' := by
  unfold execOp
  simp only [ho, resolve, invoke, builtin, Sem.run_bind, Sem.run_pure, Result.andThen_ok, List.map_toArray, List.map_cons, List.map_nil, hs, hx, hr]
theorem results_row {P : Program} {fn : Func} {p : Tmp} {ty : TypeId} (h : fn.results = #[.cell p ty]) (tmps : Array Value) (w : World) (g : Nat) (t : TypeId) (cs : Array Value) (fr : Nat × Nat) (d : TypeDesc)
    (hp : tmps.getD p undef = .pointer (some ⟨g, 0, none⟩)) (hg : w.heap[g]? = some (.cells cs t fr))
    (hu : P.underlying ty = some d) (hd : (match d with | .struct _ | .array _ _ => true | _ => false) = true) (hi : (P.info? ty).map (·.size) = some cs.size) :
    (results fn tmps).run P w = .ok (.agg cs) w := by
  have hp' : tmps[p]?.getD undef = .pointer (some ⟨g, 0, none⟩) := by simpa using hp
  simp [results, h, hp', asAddr, run_loadVar_row w g t ty cs fr d hg hu hd hi]
abbrev RZ : Obj := .cells #[.int .u32 0, .int .i64 0, .int .i64 0, .slice none 0 0] 30
def ToPost (p : PV) (tp : List Int) (w : World) (r : Ending) (w' : World) : Prop :=
  ∃ a c, r = .returned (.agg #[.int .u32 p.id, .int .i64 p.at_, .int .i64 p.many, .slice a p.n c]) ∧ w'.ownsRow w.heap.size 5 1 (.slice a p.n c) tp.length (bv tp) ∧ Below w.heap.size w w'
set_option maxRecDepth 100000 in
set_option maxHeartbeats 4000000 in
theorem to_any (p : PV) (tp : List Int) (w : World) (h : HoldsB w w.heap.size (.slice p.a p.n p.c) tp) (hl : tp.length ≤ 140737488351232) : Calls Try.prog 10 #[p.v] w (ToPost p tp w) := by
  have H := Kp.mk h
  have HL := Kp.mk hl
  clear h hl
  go_enter Try.func10, Try.ntmps10
  go_wp2_with fail
  obtain ⟨F, hF⟩ : ∃ F, F = w.heap.size := ⟨_, rfl⟩
  have HFe := Kp.mk hF
  rw [← hF]
  refine wp_world (fun W => Blk W F (.cells #[.int .u32 p.id, .int .i64 p.at_, .int .i64 p.many, .slice p.a p.n p.c] 25) ∧ Blk W (F + 1) RZ ∧ Below F w W ∧ HoldsB W F (.slice p.a p.n p.c) tp ∧ F + 2 ≤ W.heap.size) ⟨(Blk.newAt _ hF).old _, Blk.newAt _ (by simp [hF]), (more (more (Below.refl _ _) _) _).mono (by omega), by rw [hF]; exact (H.out.alloc _).alloc _, by simp [hF]⟩ ?_
  rintro w1 ⟨h1, h2, h3, h4, h5⟩
  have HP1 := Kp.mk h1
  have HR1 := Kp.mk h2
  have HB1 := Kp.mk h3
  have HT1 := Kp.mk h4
  have HF2 := Kp.mk h5
  clear h1 h2 h3 h4 h5 hF
  refine wp_region_pred (fun w' => Blk w' F (.cells #[.int .u32 p.id, .int .i64 p.at_, .int .i64 p.many, .slice p.a p.n p.c] 25) ∧ HoldsB w' F (.slice p.a p.n p.c) tp ∧ Below F w w' ∧ Blk w' (F + 1) (RZ) ∧ F + 2 ≤ w'.heap.size) [0, 1, 2, 3, 4, 5, 6, 7, 8, 9, 10] [11]
    (fun ι w' v => match ι with
      | 0 => v = .pointer (some ⟨F, 0, none⟩)
      | 1 => v = .int .u32 p.id
      | 2 => v = .pointer (some ⟨F, 1, none⟩)
      | 3 => v = .int .i64 p.at_
      | 4 => v = .pointer (some ⟨F, 2, none⟩)
      | 5 => v = .int .i64 p.many
      | 7 => v = .pointer (some ⟨F, 3, none⟩)
      | 8 => v = .slice p.a p.n p.c
      | 6 => ∃ b, v = .slice (some ⟨b, 0, none⟩) 0 0 ∧ F + 2 ≤ b ∧ Blk w' b (.cells #[] 5)
      | 9 => ∃ a c, v = .slice a p.n c ∧ w'.ownsRow (F + 2) 5 1 (.slice a p.n c) tp.length (bv tp)
      | 10 => ∃ a c, v = .agg #[.int .u32 p.id, .int .i64 p.at_, .int .i64 p.many, .slice a p.n c] ∧ w'.ownsRow (F + 2) 5 1 (.slice a p.n c) tp.length (bv tp)
      | _ => v = .bool true)
    [[], [(0, some 3)], [], [(2, some 5)], [], [(4, some 7)], [], [], [(7, some 10)], [(6, some 9), (8, some 11)], [(1, some 4), (3, some 6), (5, some 8), (9, some 12)]]
    [(0, some 3), (1, some 4), (2, some 5), (3, some 6), (4, some 7), (5, some 8), (6, some 9), (7, some 10), (8, some 11), (9, some 12), (10, some 13)]
    (by kernel_rfl) (by kernel_rfl) (by kernel_rfl) (by kernel_rfl) (by kernel_rfl) (by kernel_rfl) (by decide) (by decide) (fun w1 w2 h hb => ⟨h.1.keep hb, h.2.1.keep hb, h.2.2.1.trans (hb.mono (Nat.le_trans (by omega) h.2.2.2.2)), h.2.2.2.1.keep hb, Nat.le_trans h.2.2.2.2 hb.size⟩) ?_ ⟨HP1.out.keep (Below.refl _ _).drew, HT1.out.keep (Below.refl _ _).drew, HB1.out.drew, HR1.out.keep (Below.refl _ _).drew, HF2.out⟩ ?_ ?_
  · intro ι w1 w2 v h hb
    by_cases h6 : ι = 6
    · subst h6
      exact (by obtain ⟨b, e, h1, hg⟩ := h; exact ⟨b, e, h1, hg.keep hb⟩)
    by_cases h9 : ι = 9
    · subst h9
      exact (by obtain ⟨a, c, e, h1⟩ := h; exact ⟨a, c, e, ownsRow_below h1 hb⟩)
    by_cases h10 : ι = 10
    · subst h10
      exact (by obtain ⟨a, c, e, h1⟩ := h; exact ⟨a, c, e, ownsRow_below h1 hb⟩)
    match ι, h6, h9, h10, h with
    | 0, _, _, _, h => exact h
    | 1, _, _, _, h => exact h
    | 2, _, _, _, h => exact h
    | 3, _, _, _, h => exact h
    | 4, _, _, _, h => exact h
    | 5, _, _, _, h => exact h
    | 6, g, _, _, h => exact absurd rfl g
    | 7, _, _, _, h => exact h
    | 8, _, _, _, h => exact h
    | 9, _, g, _, h => exact absurd rfl g
    | 10, _, _, g, h => exact absurd rfl g
    | _ + 11, _, _, _, h => exact h
  · refine ⟨fun γ wx hS h => ?_, fun γ wx hS h => ?_, fun γ wx hS h => ?_, fun γ wx hS h => ?_, fun γ wx hS h => ?_, fun γ wx hS h => ?_, fun γ wx hS h => ?_, fun γ wx hS h => ?_, fun γ wx hS h => ?_, fun γ wx hS h => ?_, fun γ wx hS h => ?_, trivial⟩
    · refine ⟨_, rfl, ?_⟩
      refine predOp_val (v := .pointer (some ⟨F, 0, none⟩)) ?_ ?_ ?_
      · kernel_rfl
      · simp only [putE]
        go_simp
      · rfl
    · have h0 := h
      have e0 : γ 0 = .pointer (some ⟨F, 0, none⟩) := h0
      have hcell : wx.cell? ⟨F, 0, none⟩ = some (.int .u32 p.id) := hS.1.cell 0
      refine ⟨_, rfl, ?_⟩
      refine predOp_val (v := .int .u32 p.id) ?_ ?_ ?_
      · kernel_rfl
      · simp only [putE, e0]
        go_simp
      · rfl
    · refine ⟨_, rfl, ?_⟩
      refine predOp_val (v := .pointer (some ⟨F, 1, none⟩)) ?_ ?_ ?_
      · kernel_rfl
      · simp only [putE]
        go_simp
      · rfl
    · have h2 := h
      have e2 : γ 2 = .pointer (some ⟨F, 1, none⟩) := h2
      have hcell : wx.cell? ⟨F, 1, none⟩ = some (.int .i64 p.at_) := hS.1.cell 1
      refine ⟨_, rfl, ?_⟩
      refine predOp_val (v := .int .i64 p.at_) ?_ ?_ ?_
      · kernel_rfl
      · simp only [putE, e2]
        go_simp
      · rfl
    · refine ⟨_, rfl, ?_⟩
      refine predOp_val (v := .pointer (some ⟨F, 2, none⟩)) ?_ ?_ ?_
      · kernel_rfl
      · simp only [putE]
        go_simp
      · rfl
    · have h4 := h
      have e4 : γ 4 = .pointer (some ⟨F, 2, none⟩) := h4
      have hcell : wx.cell? ⟨F, 2, none⟩ = some (.int .i64 p.many) := hS.1.cell 2
      refine ⟨_, rfl, ?_⟩
      refine predOp_val (v := .int .i64 p.many) ?_ ?_ ?_
      · kernel_rfl
      · simp only [putE, e4]
        go_simp
      · rfl
    · refine ⟨_, rfl, Or.inl ⟨?_, ?_⟩⟩
      · kernel_rfl
      · refine predRun_new (w' := wx.alloc (.cells #[] 5)) (v := .slice (some ⟨wx.heap.size, 0, none⟩) 0 0) ?_ (more (Below.refl _ _) _) ?_
        · simp only [putE]
          go_simp
        · exact ⟨_, rfl, hS.2.2.2.2, Blk.new _ _⟩
    · refine ⟨_, rfl, ?_⟩
      refine predOp_val (v := .pointer (some ⟨F, 3, none⟩)) ?_ ?_ ?_
      · kernel_rfl
      · simp only [putE]
        go_simp
      · rfl
    · have h7 := h
      have e7 : γ 7 = .pointer (some ⟨F, 3, none⟩) := h7
      have hcell : wx.cell? ⟨F, 3, none⟩ = some (.slice p.a p.n p.c) := hS.1.cell 3
      refine ⟨_, rfl, ?_⟩
      refine predOp_val (v := .slice p.a p.n p.c) ?_ ?_ ?_
      · kernel_rfl
      · simp only [putE, e7]
        go_simp
      · rfl
    · obtain ⟨h6, h8⟩ := h
      have p6 : ∃ b, (γ 6) = .slice (some ⟨b, 0, none⟩) 0 0 ∧ F + 2 ≤ b ∧ Blk wx b (.cells #[] 5) := h6
      have e8 : γ 8 = .slice p.a p.n p.c := h8
      obtain ⟨b, e6, h61, h62⟩ := p6
      obtain ⟨v', w', hr, hb, a', c', e9, ho⟩ := app_run2 wx b (F + 2) h62 h61 (by have := h62.lt; omega) F p.a p.n p.c tp hS.2.1 HL.out
      refine ⟨_, rfl, Or.inl ⟨?_, ?_⟩⟩
      · kernel_rfl
      · refine predRun_new (w' := w') (v := v') ?_ hb ⟨a', c', e9, ?_⟩
        · exact exec_append rfl (by simp only [putE, e6]; rfl) (by simp only [putE, e8]; rfl) hr
        · rw [← e9]; exact ho
    · obtain ⟨h1, h3, h5, h9⟩ := h
      have e1 : γ 1 = .int .u32 p.id := h1
      have e3 : γ 3 = .int .i64 p.at_ := h3
      have e5 : γ 5 = .int .i64 p.many := h5
      have p9 : ∃ a c, (γ 9) = .slice a p.n c ∧ wx.ownsRow (F + 2) 5 1 (.slice a p.n c) tp.length (bv tp) := h9
      obtain ⟨a, c, e9, h9⟩ := p9
      refine ⟨_, rfl, ?_⟩
      refine predOp_val (v := .agg #[.int .u32 p.id, .int .i64 p.at_, .int .i64 p.many, .slice a p.n c]) ?_ ?_ ?_
      · kernel_rfl
      · simp only [putE, e1, e3, e5, e9]
        go_simp
      · exact ⟨a, c, rfl, h9⟩
  · intro γ w9 hS h
    obtain ⟨a, c, e10, h10⟩ : ∃ a c, γ 10 = .agg #[.int .u32 p.id, .int .i64 p.at_, .int .i64 p.many, .slice a p.n c] ∧ w9.ownsRow (F + 2) 5 1 (.slice a p.n c) tp.length (bv tp) := h.2.2.2.2.2.2.2.2.2.2
    simp only [putE, Act.put, List.setIfInBounds_toArray, List.set_cons_zero, List.set_cons_succ]
    rw [e10]
    have HTH : Kp (w9.there (F + 1) 0 4) := ⟨fun j hj => ⟨match j, hj with | 0, _ => by rw [hS.2.2.2.1.cell 0]; rfl | 1, _ => by rw [hS.2.2.2.1.cell 1]; rfl | 2, _ => by rw [hS.2.2.2.1.cell 2]; rfl | 3, _ => by rw [hS.2.2.2.1.cell 3]; rfl | j + 4, hj => absurd hj (by omega), hS.2.2.2.1.frozen _⟩⟩
    have HTU : Kp (Turn (F + 1) (.cells #[.int .u32 p.id, .int .i64 p.at_, .int .i64 p.many, .slice a p.n c] 30) w9 (w9.setCells (F + 1) 0 [.int .u32 p.id, .int .i64 p.at_, .int .i64 p.many, .slice a p.n c])) := ⟨((((Turn.same hS.2.2.2.1).set 0 _).set 1 _).set 2 _).set 3 _⟩
    have H1C : Kp ((#[.int .u32 p.id, .int .i64 p.at_, .int .i64 p.many, .slice a p.n c] : Array Value).all (·.oneCell') = true) := ⟨all_oneCell_toArray (cs := [.int .u32 p.id, .int .i64 p.at_, .int .i64 p.many, .slice a p.n c]) (by intro v hv; simp only [List.mem_cons, List.not_mem_nil, or_false] at hv; rcases hv with rfl | rfl | rfl | rfl <;> rfl)⟩
    have HS3 := Kp.mk hS.2.2.1
    have HS5 := Kp.mk hS.2.2.2.2
    have HO := Kp.mk h10
    clear h hS e10 h10
    refine wpOps_step rfl rfl ?_
    refine wp_store_mid 30 (.tmp 2) (.tmp 13) rfl (F + 1) 0 #[.int .u32 p.id, .int .i64 p.at_, .int .i64 p.many, .slice a p.n c] ?hx ?hy ?ht info30s H1C.out ?_
    case hx => rfl
    case hy => rfl
    case ht => exact HTH.out
    obtain ⟨W5, hW5⟩ : ∃ W5, W5 = w9.setCells (F + 1) 0 [.int .u32 p.id, .int .i64 p.at_, .int .i64 p.many, .slice a p.n c] := ⟨_, rfl⟩
    rw [← hW5] at HTU
    rw [← hW5]
    clear hW5 HTH H1C
    refine wpOps_done ?_
    have HO5 : Kp (W5.ownsRow (F + 2) 5 1 (.slice a p.n c) tp.length (bv tp)) := ⟨ownsRow_turn HO.out HTU.out (by omega)⟩
    have HBE : Kp (Below F w W5) := ⟨HS3.out.trans (HTU.out.below (by omega) (by have := HS5.out; omega))⟩
    have HBR : Kp (W5.heap[F + 1]? = some (.cells #[.int .u32 p.id, .int .i64 p.at_, .int .i64 p.many, .slice a p.n c] 30)) := ⟨HTU.out.blk⟩
    clear HTU HS3 HS5 HO
    go_wp2_with fail
    exact bodyPost_ret (results_row rfl _ _ _ _ _ _ _ rfl HBR.out Try.underlying30 rfl info30s) rfl ⟨a, c, rfl, ownsRow_base HO5.out (by have := HFe.out; omega), by rw [← HFe.out]; exact HBE.out⟩
theorem To_holds {w w' : World} {M : Nat} {v : Value} {l : List Int} (hb : Bytes l) (h : w'.ownsRow M 5 1 v l.length (bv l)) : HoldsB w' w'.heap.size v l := HoldsB.ofRow hb h
end Go.Proofs.Ytlgcpfeaecpocaa
