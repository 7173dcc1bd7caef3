/-
  The law OtsLinks, walked.
-/
import Derived.Test.YtpljjmdkagbjpaaDoorLink
import Derived.Test.YtpljjmdkagbjpaaDoorTextS
import Derived.Test.YtpljjmdkagbjpaaDoorAwk
namespace Go.Proofs.YtpljjmdkagbjpaaDoor
open Go.RowKit

theorem eql27 {p : List Int} (hb : Bytes p) (h : p.length = 16) (w : World) : (binOp .eql 27 (dgV p) (dgV p)).run Tryd.prog w = .ok (.bool true) w := by
  have := run_equalIn_bytes (P := Tryd.prog) w 9998 27 5 16 Tryd.underlying27 Tryd.underlying5 size5 (p.map fun n => UInt8.ofNat n.toNat) (p.map fun n => UInt8.ofNat n.toNat) (by simp [h]) (by simp [h])
  rw [bv_cells hb] at this
  rw [run_eql_struct, this]
  simp
theorem eqg27 (p q : List Int) (x y : Operand) (w : World) : (eqGuard .eql 27 x y (dgV p) (dgV q)).run Tryd.prog w = .ok () w := by kernel_rfl
theorem to_any (d x : Int) (w : World) : Calls Tryd.prog 10 #[nameV d x] w fun q w' => q = .returned (nameV d x) ∧ Below w.heap.size w w' := by
  go_enter Tryd.func10, Tryd.ntmps10
  go_wp2_with fail
  have hr : Blk ((w.alloc (.cells #[.int .i64 d, .int .u32 x] 24)).alloc (.cells #[.int .i64 d, .int .u32 x] 29)) (w.heap.size + 1) (.cells #[.int .i64 d, .int .u32 x] 29) := Blk.newAt _ (by simp)
  refine bodyPost_ret (v := nameV d x) ?_ rfl ⟨rfl, more (more (Below.refl _ _) _) _⟩
  exact results_cell_row rfl _ _ (w.heap.size + 1) 29 _ (0, 0) _ rfl hr Tryd.underlying29 rfl (cellsN29 d x)
set_option maxRecDepth 100000 in
set_option maxHeartbeats 2000000 in
theorem links_core (d x c s : Int) (z : List Int) (w : World) (hk : KonIs w) (hx : 0 ≤ x ∧ x < 4294967296) (hz : z.length = 16) (hzb : Bytes z) :
    Calls Tryd.prog 3 #[nameV d x, .int .i64 c, .int .i64 s, dgV z] w fun e w' => e = .returned (.bool true) ∧ Below w.heap.size w w' := by
  have HK := Kp.mk hk
  have HX := Kp.mk hx
  have HZ := Kp.mk hz
  have HZB := Kp.mk hzb
  obtain ⟨q0, hq⟩ : ∃ q, q = shortL (linkT d x c s z) := ⟨_, rfl⟩
  have HQ : Kp (shortL (linkT d x c s z) = q0) := ⟨hq.symm⟩
  have HQl : Kp (q0.length = 16) := ⟨by rw [hq]; exact shortL_len _⟩
  have HQb : Kp (Bytes q0) := ⟨by rw [hq]; exact shortL_bytes _⟩
  have HTl : Kp ((headL d x ++ ([c % 256, s % 256] ++ z)).length = 23) := ⟨by simp [headL_len, hz]⟩
  clear hk hx hz hzb hq
  go_enter Tryd.func3, Tryd.ntmps3
  go_wp2_with fail
  obtain ⟨A, hA⟩ : ∃ A, A = w.heap.size := ⟨_, rfl⟩
  have HA := Kp.mk hA
  rw [← hA]
  refine wp_world (fun W => Blk W A (.cells #[.int .i64 d, .int .u32 x] 24) ∧ Row W (A + 1) 25 .u8 z ∧ Below A w W) ⟨?_, ?_, ?_⟩ ?_
  · exact Blk.old (Blk.newAt _ hA) _
  · exact Blk.newAt _ (by simp [hA])
  · rw [hA]; exact more (more (Below.refl _ _) _) _
  rintro W ⟨h1, h2, h4⟩
  have G1 := Kp.mk h1
  have G2 := Kp.mk h2
  have G4 := Kp.mk h4
  clear h1 h2 h4 hA
  refine wp_region_pred (fun w' => Blk w' A (.cells #[.int .i64 d, .int .u32 x] 24) ∧ Row w' (A + 1) 25 .u8 z ∧ Below A w w') [0, 1, 2, 3, 4, 5, 6, 7, 8, 9, 10, 11, 12, 13, 14, 15] [16]
    (fun ι w' v => match ι with
      | 2 | 3 | 8 => v = nameV d x
      | 4 | 9 => v = .int .i64 c
      | 5 | 10 => v = .int .i64 s
      | 6 | 11 => v = dgV z
      | 7 | 13 => v = dgV q0
      | 12 => HoldsB w' w'.heap.size v (linkT d x c s z)
      | _ => v = .bool true)
    [[], [(0, some 9)], [(1, some 10)], [(1, some 10), (2, some 11)], [(1, some 10)], [(1, some 10)], [(1, some 10)], [(1, some 10), (3, some 12), (4, some 13), (5, some 14), (6, some 15)], [(1, some 10)], [(1, some 10)], [(1, some 10)], [(1, some 10)], [(1, some 10), (7, some 16), (8, some 17), (9, some 18), (10, some 19), (11, some 20)], [(1, some 10), (12, some 21)], [(1, some 10), (7, some 16), (13, some 22)], [(1, some 10), (14, some 23)]]
    [(0, some 9), (1, some 10), (2, some 11), (3, some 12), (4, some 13), (5, some 14), (6, some 15), (7, some 16), (8, some 17), (9, some 18), (10, some 19), (11, some 20), (12, some 21), (13, some 22), (14, some 23), (15, some 24)]
    (by kernel_rfl) (by kernel_rfl) (by kernel_rfl) (by kernel_rfl) (by kernel_rfl) (by kernel_rfl) (by decide) (by decide) (fun w1 w2 h hb => ⟨h.1.keep hb, h.2.1.keep hb, h.2.2.trans (hb.mono (Nat.le_of_lt h.1.lt))⟩) ?_ ⟨G1.out.draw, G2.out.drew, G4.out.drew⟩ ?_ ?_
  · intro ι w1 w2 v h hb
    by_cases h12 : ι = 12
    · subst h12
      exact (HoldsB.keep h hb).mono hb.size
    match ι, h12, h with
    | 0, _, h => exact h
    | 1, _, h => exact h
    | 2, _, h => exact h
    | 3, _, h => exact h
    | 4, _, h => exact h
    | 5, _, h => exact h
    | 6, _, h => exact h
    | 7, _, h => exact h
    | 8, _, h => exact h
    | 9, _, h => exact h
    | 10, _, h => exact h
    | 11, _, h => exact h
    | 12, g, h => exact absurd rfl g
    | 13, _, h => exact h
    | 14, _, h => exact h
    | 15, _, h => exact h
    | _ + 16, _, h => exact h
  · refine ⟨fun γ wx hS h => ?_, fun γ wx hS h => ?_, fun γ wx hS h => ?_, fun γ wx hS h => ?_, fun γ wx hS h => ?_, fun γ wx hS h => ?_, fun γ wx hS h => ?_, fun γ wx hS h => ?_, fun γ wx hS h => ?_, fun γ wx hS h => ?_, fun γ wx hS h => ?_, fun γ wx hS h => ?_, fun γ wx hS h => ?_, fun γ wx hS h => ?_, fun γ wx hS h => ?_, fun γ wx hS h => ?_, trivial⟩
    · refine ⟨_, rfl, Or.inl ⟨rfl, predRun_call (f := 8) (args := #[]) (by simp only [putE]; go_simp) ?_⟩⟩
      exact (awake_any wx).mono fun e w2 ⟨h1, h2⟩ => ⟨_, h1, rfl, h2⟩
    · have h0 := h
      have e0 : γ 0 = .bool true := h0
      refine ⟨_, rfl, Or.inl ⟨rfl, predRun_value (v := .bool true) (by simp only [putE, e0]; first | rfl | (go_simp; done) | (go_simp; with_reducible rfl) | (go_simp; rfl)) rfl⟩⟩
    · have h1 := h
      have e1 : γ 1 = .bool true := h1
      refine ⟨_, rfl, Or.inl ⟨(by simp only [putE, e1]; first | kernel_rfl | rfl), predRun_value (exec_load_blk 24 (.tmp 4) rfl (A) rfl 24 _ (0, 0) _ hS.1 Tryd.underlying24 rfl (cellsN24 d x)) rfl⟩⟩
    · obtain ⟨h1, h2⟩ := h
      have e1 : γ 1 = .bool true := h1
      have e2 : γ 2 = nameV d x := h2
      refine ⟨_, rfl, Or.inl ⟨(by simp only [putE, e1, e2]; first | kernel_rfl | rfl), predRun_call (f := 10) (args := #[nameV d x]) (by simp only [putE, e1, e2]; go_simp) ?_⟩⟩
      exact (to_any d x wx).mono fun e w2 ⟨h1, h2⟩ => ⟨_, h1, rfl, h2⟩
    · have h1 := h
      have e1 : γ 1 = .bool true := h1
      refine ⟨_, rfl, Or.inl ⟨(by simp only [putE, e1]; first | kernel_rfl | rfl), predRun_value (v := .int .i64 c) (by simp only [putE, e1]; first | rfl | (go_simp; done) | (go_simp; with_reducible rfl) | (go_simp; rfl)) rfl⟩⟩
    · have h1 := h
      have e1 : γ 1 = .bool true := h1
      refine ⟨_, rfl, Or.inl ⟨(by simp only [putE, e1]; first | kernel_rfl | rfl), predRun_value (v := .int .i64 s) (by simp only [putE, e1]; first | rfl | (go_simp; done) | (go_simp; with_reducible rfl) | (go_simp; rfl)) rfl⟩⟩
    · have h1 := h
      have e1 : γ 1 = .bool true := h1
      refine ⟨_, rfl, Or.inl ⟨(by simp only [putE, e1]; first | kernel_rfl | rfl), predRun_value (exec_load_blk 25 (.tmp 7) rfl (A + 1) rfl 25 _ (0, 0) _ hS.2.1 Tryd.underlying25 rfl (cells49 HZ.out)) rfl⟩⟩
    · obtain ⟨h1, h3, h4, h5, h6⟩ := h
      have e1 : γ 1 = .bool true := h1
      have e3 : γ 3 = nameV d x := h3
      have e4 : γ 4 = .int .i64 c := h4
      have e5 : γ 5 = .int .i64 s := h5
      have e6 : γ 6 = dgV z := h6
      refine ⟨_, rfl, Or.inl ⟨(by simp only [putE, e1, e3, e4, e5, e6]; first | kernel_rfl | rfl), predRun_call (f := 9) (args := #[nameV d x, .int .i64 c, .int .i64 s, dgV z]) (by simp only [putE, e1, e3, e4, e5, e6]; go_simp) ?_⟩⟩
      exact (link_any d x c s z wx (HK.out.keep (by rw [← HA.out]; exact hS.2.2)) HX.out HZ.out HZB.out).mono fun e w2 ⟨h1, h2⟩ => ⟨_, h1, (show dgV (shortL (linkT d x c s z)) = dgV q0 by rw [HQ.out]), h2⟩
    · have h1 := h
      have e1 : γ 1 = .bool true := h1
      refine ⟨_, rfl, Or.inl ⟨(by simp only [putE, e1]; first | kernel_rfl | rfl), predRun_value (exec_load_blk 24 (.tmp 4) rfl (A) rfl 24 _ (0, 0) _ hS.1 Tryd.underlying24 rfl (cellsN24 d x)) rfl⟩⟩
    · have h1 := h
      have e1 : γ 1 = .bool true := h1
      refine ⟨_, rfl, Or.inl ⟨(by simp only [putE, e1]; first | kernel_rfl | rfl), predRun_value (v := .int .i64 c) (by simp only [putE, e1]; first | rfl | (go_simp; done) | (go_simp; with_reducible rfl) | (go_simp; rfl)) rfl⟩⟩
    · have h1 := h
      have e1 : γ 1 = .bool true := h1
      refine ⟨_, rfl, Or.inl ⟨(by simp only [putE, e1]; first | kernel_rfl | rfl), predRun_value (v := .int .i64 s) (by simp only [putE, e1]; first | rfl | (go_simp; done) | (go_simp; with_reducible rfl) | (go_simp; rfl)) rfl⟩⟩
    · have h1 := h
      have e1 : γ 1 = .bool true := h1
      refine ⟨_, rfl, Or.inl ⟨(by simp only [putE, e1]; first | kernel_rfl | rfl), predRun_value (exec_load_blk 25 (.tmp 7) rfl (A + 1) rfl 25 _ (0, 0) _ hS.2.1 Tryd.underlying25 rfl (cells49 HZ.out)) rfl⟩⟩
    · obtain ⟨h1, h7, h8, h9, h10, h11⟩ := h
      have e1 : γ 1 = .bool true := h1
      have e7 : γ 7 = dgV q0 := h7
      have e8 : γ 8 = nameV d x := h8
      have e9 : γ 9 = .int .i64 c := h9
      have e10 : γ 10 = .int .i64 s := h10
      have e11 : γ 11 = dgV z := h11
      refine ⟨_, rfl, Or.inl ⟨(by simp only [putE, e1, e7, e8, e9, e10, e11]; first | kernel_rfl | rfl), predRun_call (f := 12) (args := #[nameV d x, .int .i64 c, .int .i64 s, dgV z]) (by simp only [putE, e1, e7, e8, e9, e10, e11]; go_simp) ?_⟩⟩
      exact (rlink_any d x c s z wx HX.out HZ.out HZB.out).mono fun e w2 ⟨v', h1, h2, h3⟩ => ⟨_, h1, h2, h3⟩
    · obtain ⟨h1, h12⟩ := h
      have e1 : γ 1 = .bool true := h1
      have p12 : HoldsB wx wx.heap.size (γ 12) (linkT d x c s z) := h12
      obtain ⟨a, n, c1, e12, _⟩ := p12.slice
      rw [e12] at p12
      refine ⟨_, rfl, Or.inl ⟨(by simp only [putE, e1]; first | kernel_rfl | rfl), predRun_call (f := 11) (args := #[.slice a n c1]) (by simp only [putE, e12]; go_simp) ?_⟩⟩
      exact (of_any _ _ 87 _ wx p12 (by rw [HTl.out]; omega)).mono fun e w2 ⟨h1, h2⟩ => ⟨_, h1, (show dgV (shortL (linkT d x c s z)) = dgV q0 by rw [HQ.out]), h2⟩
    · obtain ⟨h1, h7, h13⟩ := h
      have e1 : γ 1 = .bool true := h1
      have e7 : γ 7 = dgV q0 := h7
      have e13 : γ 13 = dgV q0 := h13
      refine ⟨_, rfl, Or.inl ⟨(by simp only [putE, e1, e7, e13]; first | kernel_rfl | rfl), predRun_value (v := .bool true) (by simp only [putE, e1, e7, e13]; have hg := eqg27 q0 q0; have he := eql27 HQb.out HQl.out; first | rfl | (go_simp; done) | (go_simp; with_reducible rfl) | (go_simp; rfl)) rfl⟩⟩
    · obtain ⟨h1, h14⟩ := h
      have e1 : γ 1 = .bool true := h1
      have e14 : γ 14 = .bool true := h14
      refine ⟨_, rfl, Or.inl ⟨rfl, predRun_value (v := .bool true) (by simp only [putE, e1, e14]; first | rfl | (go_simp; done) | (go_simp; with_reducible rfl) | (go_simp; rfl)) rfl⟩⟩
  · intro γ w9 hS h
    have h15 : γ 15 = .bool true := h.2.2.2.2.2.2.2.2.2.2.2.2.2.2.2
    have HB := Kp.mk hS.2.2
    simp only [putE, Act.put, List.setIfInBounds_toArray, List.set_cons_zero, List.set_cons_succ]
    rw [h15]
    clear h hS h15 G1 G2 G4
    refine wpOps_step rfl rfl ?_
    refine wp_assign_end rfl rfl ?_
    refine wpOps_done ?_
    go_wp2_with fail
    go_ret
    exact ⟨rfl, by rw [← HA.out]; exact HB.out⟩
theorem otsLinks_walk (x0_0 x0_1 x1 x2 : Int) (x3 : List Int) (w : World) (w0_0 : (Lit.int .i64 x0_0).wf = true) (w0_1 : (Lit.int .u32 x0_1).wf = true) (w1 : (Lit.int .i64 x1).wf = true) (w2 : (Lit.int .i64 x2).wf = true) (l3 : x3.length = 16) (b3 : Bytes x3) (hk : KonIs w) :
    Calls Tryd.prog 3 #[.agg #[.int .i64 x0_0, .int .u32 x0_1], .int .i64 x1, .int .i64 x2, .agg (kv .u8 x3).toArray] w fun e w' => e = .returned (.bool true) ∧ Below w.heap.size w w' :=
  links_core x0_0 x0_1 x1 x2 x3 w hk (by have hb1 : IntKind.u32.min = 0 := rfl; have hb2 : IntKind.u32.max = 4294967295 := rfl; simp [Lit.wf, hb1, hb2] at w0_1; omega) l3 b3
end Go.Proofs.YtpljjmdkagbjpaaDoor
