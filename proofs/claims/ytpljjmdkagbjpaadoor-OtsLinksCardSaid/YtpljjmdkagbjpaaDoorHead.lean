/-
  The document's Head of layer 10.
-/
import Derived.Test.YtpljjmdkagbjpaaDoorName
import Derived.Test.YtpljjmdkagbjpaaDoorFlowP
import Derived.ArgAppend
namespace Go.Proofs.YtpljjmdkagbjpaaDoor
open Go.RowKit

theorem app_run1 (w : World) (g : Nat) (y : Int) (hg : Blk w g (.cells #[.int .u8 y] 5)) (hy : 0 ≤ y ∧ y ≤ 255) (M : Nat) (u : Value) (p : List Int) (hp : HoldsB w M u p) (hpos : 0 < p.length) (hlen : p.length ≤ 100000) :
    ∃ v' w', (Builtin.append_ #[32, 32] 32 #[.slice (some ⟨g, 0, none⟩) 1 1, u]).run Tryd.prog w = .ok v' w' ∧ Below w.heap.size w w' ∧ HoldsB w' w'.heap.size v' (y :: p) := by
  obtain ⟨i0, hi, hz0, hz1, hz2⟩ := info_parts info5
  obtain ⟨ad, m, cap, rfl, hm⟩ := hp.slice
  cases ad with
  | none =>
    obtain ⟨_, _, e, hle, _, hc, _⟩ := hp
    simp only [Value.slice.injEq] at e
    have := hc e.1.symm
    omega
  | some ad =>
    obtain ⟨v', w', hrun, r1, r2⟩ := run_append_arg_grows (P := Tryd.prog) w 32 32 5 i0 (.int .u8 0) 1 1 Tryd.underlying32 hi hz0 hz1 hz2 rfl (by decide) ⟨g, 0, none⟩ 1 1 [.int .u8 y] rfl (fun j u h => by
      cases j with
      | zero =>
        have e : Value.int .u8 y = u := by simpa using h
        rw [← e]
        exact hg.cell 0
      | succ j => simp at h) ad m cap (bv p) (by rw [bv_len]; omega) hp.news (by omega) (by unfold maxLen; omega) (by omega)
    refine ⟨v', w', hrun, ⟨r2.os, r2.tape, r2.output, r2.size, fun k hk => r2.block k hk (by simp)⟩, ?_⟩
    have hb : Bytes (y :: p) := fun v hv => by
      rcases List.mem_cons.1 hv with rfl | hv
      · exact hy
      · exact hp.bytes v hv
    rw [hm, show 1 + p.length = (y :: p).length by rw [List.length_cons]; omega] at r1
    exact HoldsB.ofRow hb r1
theorem wrapU64 {x : Int} (h : 0 ≤ x ∧ x < 4294967296) : IntKind.u64.wrap x = x := by
  simp only [IntKind.wrap, IntKind.bits, IntKind.signed]
  simp
  omega
theorem exec_append32 {o : Oper} {a : Act} {w w' : World} {s x : Operand} {u v v' : Value} (ho : o.op = .call { callee := .builtin .append, args := #[s, x], argTypes := #[32, 32] })
    (hs : a.eval s = v) (hx : a.eval x = u) (hr : (Builtin.append_ #[32, 32] o.type #[v, u]).run Tryd.prog w = .ok v' w') : (execOp a.eval o).run Tryd.prog w = .ok (.value v') w' := by
  unfold execOp
  simp only [ho, resolve, invoke, builtin, Sem.run_bind, Sem.run_pure, Result.andThen_ok, List.map_toArray, List.map_cons, List.map_nil, hs, hx, hr]
set_option maxRecDepth 100000 in
set_option maxHeartbeats 2000000 in
theorem head_any (d x : Int) (w : World) (hx : 0 ≤ x ∧ x < 4294967296) :
    Calls Tryd.prog 46 #[nameV d x] w fun q w' => ∃ v', q = .returned v' ∧ HoldsB w' w'.heap.size v' (headL d x) ∧ Below w.heap.size w w' := by
  have HX := Kp.mk hx
  clear hx
  go_enter Tryd.func46, Tryd.ntmps46
  go_wp2_with fail
  obtain ⟨A, hA⟩ : ∃ A, A = w.heap.size := ⟨_, rfl⟩
  have HA := Kp.mk hA
  rw [← hA]
  refine wp_world (fun W => Blk W A (.cells #[.int .i64 d, .int .u32 x] 24) ∧ Below A w W) ⟨Blk.newAt _ hA, by rw [hA]; exact more (Below.refl _ _) _⟩ ?_
  rintro W ⟨h1, h4⟩
  have G1 := Kp.mk h1
  have G4 := Kp.mk h4
  clear h1 h4 hA
  refine wp_region_pred (fun w' => Blk w' A (.cells #[.int .i64 d, .int .u32 x] 24) ∧ Below A w w') [0, 1, 2, 3, 4, 5, 6, 7, 8] [9]
    (fun ι w' v => match ι with
      | 0 => v = .pointer (some ⟨A, 0, none⟩)
      | 1 => v = .int .i64 d
      | 2 => v = .int .u8 (d % 256)
      | 4 => v = .pointer (some ⟨A, 1, none⟩)
      | 5 => v = .int .u32 x
      | 6 => v = .int .u64 x
      | 3 => ∃ g, v = .slice (some ⟨g, 0, none⟩) 1 1 ∧ Blk w' g (.cells #[.int .u8 (d % 256)] 5)
      | 7 => HoldsB w' w'.heap.size v (numL x 4)
      | 8 => HoldsB w' w'.heap.size v (headL d x)
      | _ => v = .bool true)
    [[], [(0, some 3)], [(1, some 4)], [(2, some 5)], [], [(4, some 7)], [(5, some 8)], [(6, some 9)], [(3, some 6), (7, some 10)]]
    [(0, some 3), (1, some 4), (2, some 5), (3, some 6), (4, some 7), (5, some 8), (6, some 9), (7, some 10), (8, some 11)]
    (by kernel_rfl) (by kernel_rfl) (by kernel_rfl) (by kernel_rfl) (by kernel_rfl) (by kernel_rfl) (by decide) (by decide) (fun w1 w2 h hb => ⟨h.1.keep hb, h.2.trans (hb.mono (Nat.le_of_lt h.1.lt))⟩) ?_ ⟨G1.out.draw, G4.out.drew⟩ ?_ ?_
  · intro ι w1 w2 v h hb
    by_cases h3 : ι = 3
    · subst h3
      exact (by obtain ⟨g, e, hg⟩ := h; exact ⟨g, e, hg.keep hb⟩)
    by_cases h7 : ι = 7
    · subst h7
      exact (HoldsB.keep h hb).mono hb.size
    by_cases h8 : ι = 8
    · subst h8
      exact (HoldsB.keep h hb).mono hb.size
    match ι, h3, h7, h8, h with
    | 0, _, _, _, h => exact h
    | 1, _, _, _, h => exact h
    | 2, _, _, _, h => exact h
    | 3, g, _, _, h => exact absurd rfl g
    | 4, _, _, _, h => exact h
    | 5, _, _, _, h => exact h
    | 6, _, _, _, h => exact h
    | 7, _, g, _, h => exact absurd rfl g
    | 8, _, _, g, h => exact absurd rfl g
    | _ + 9, _, _, _, h => exact h
  · refine ⟨fun γ wx hS h => ?_, fun γ wx hS h => ?_, fun γ wx hS h => ?_, fun γ wx hS h => ?_, fun γ wx hS h => ?_, fun γ wx hS h => ?_, fun γ wx hS h => ?_, fun γ wx hS h => ?_, fun γ wx hS h => ?_, trivial⟩
    · refine ⟨_, rfl, Or.inl ⟨rfl, predRun_value (v := .pointer (some ⟨A, 0, none⟩)) (by simp only [putE]; first | rfl | (go_simp; done) | (go_simp; with_reducible rfl) | (go_simp; rfl)) rfl⟩⟩
    · have h0 := h
      have e0 : γ 0 = .pointer (some ⟨A, 0, none⟩) := h0
      refine ⟨_, rfl, Or.inl ⟨rfl, predRun_value (v := .int .i64 d) (by simp only [putE, e0]; have c0 := hS.1.cell 0; first | rfl | (go_simp; done) | (go_simp; with_reducible rfl) | (go_simp; rfl)) rfl⟩⟩
    · have h1 := h
      have e1 : γ 1 = .int .i64 d := h1
      refine ⟨_, rfl, Or.inl ⟨rfl, predRun_value (v := .int .u8 (d % 256)) (by simp only [putE, e1]; go_simp; exact IntKind.wrap_u8' _) rfl⟩⟩
    · have h2 := h
      have e2 : γ 2 = .int .u8 (d % 256) := h2
      refine ⟨_, rfl, Or.inl ⟨rfl, predRun_new (w' := wx.alloc (.cells #[.int .u8 (d % 256)] 5)) (v := .slice (some ⟨wx.heap.size, 0, none⟩) 1 1) (by simp only [putE, e2]; go_simp) (more (Below.refl _ _) _) ⟨_, rfl, Blk.new _ _⟩⟩⟩
    · refine ⟨_, rfl, Or.inl ⟨rfl, predRun_value (v := .pointer (some ⟨A, 1, none⟩)) (by simp only [putE]; first | rfl | (go_simp; done) | (go_simp; with_reducible rfl) | (go_simp; rfl)) rfl⟩⟩
    · have h4 := h
      have e4 : γ 4 = .pointer (some ⟨A, 1, none⟩) := h4
      refine ⟨_, rfl, Or.inl ⟨rfl, predRun_value (v := .int .u32 x) (by simp only [putE, e4]; have c1 := hS.1.cell 1; first | rfl | (go_simp; done) | (go_simp; with_reducible rfl) | (go_simp; rfl)) rfl⟩⟩
    · have h5 := h
      have e5 : γ 5 = .int .u32 x := h5
      refine ⟨_, rfl, Or.inl ⟨rfl, predRun_value (v := .int .u64 x) (by have x0 := HX.out.1; have x1 := HX.out.2; simp only [putE, e5]; go_simp; exact wrapU64 HX.out) rfl⟩⟩
    · have h6 := h
      have e6 : γ 6 = .int .u64 x := h6
      refine ⟨_, rfl, Or.inl ⟨rfl, predRun_call (f := 73) (args := #[.int .u64 x, .int .i64 4]) (by simp only [putE, e6]; go_simp) ?_⟩⟩
      exact (num_any x 4 wx (Or.inl rfl) HX.out.1 (by have := HX.out.2; omega)).mono fun e w2 ⟨v', h1, h2, h3⟩ => ⟨_, h1, h2, h3⟩
    · obtain ⟨h3, h7⟩ := h
      have p3 : ∃ g, (γ 3) = .slice (some ⟨g, 0, none⟩) 1 1 ∧ Blk wx g (.cells #[.int .u8 (d % 256)] 5) := h3
      have p7 : HoldsB wx wx.heap.size (γ 7) (numL x 4) := h7
      obtain ⟨g, e3, hg⟩ := p3
      obtain ⟨a, n, c1, e7, _⟩ := p7.slice
      rw [e7] at p7
      obtain ⟨v', w', hr, hb, hh⟩ := app_run1 wx g (d % 256) hg (by omega) _ _ _ p7 (by rw [numL_len]; omega) (by rw [numL_len]; omega)
      refine ⟨_, rfl, Or.inl ⟨rfl, predRun_new (w' := w') (v := v') (exec_append32 rfl (by simp only [putE, e3]; rfl) (by simp only [putE, e7]; rfl) hr) hb hh⟩⟩
  · intro γ w9 hS h
    have h8 : HoldsB w9 w9.heap.size (γ 8) (headL d x) := h.2.2.2.2.2.2.2.2
    have HB := Kp.mk hS.2
    have H8 := Kp.mk h8
    simp only [putE, Act.put, List.setIfInBounds_toArray, List.set_cons_zero, List.set_cons_succ]
    clear h hS h8 G1 G4
    generalize γ 8 = v8 at *
    refine wpOps_step rfl rfl ?_
    refine wp_assign_end rfl rfl ?_
    refine wpOps_done ?_
    go_wp2_with fail
    go_ret
    exact ⟨_, rfl, H8.out, by rw [← HA.out]; exact HB.out⟩
end Go.Proofs.YtpljjmdkagbjpaaDoor
