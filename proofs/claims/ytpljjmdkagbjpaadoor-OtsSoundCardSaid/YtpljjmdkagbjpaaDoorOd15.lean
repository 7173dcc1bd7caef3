/-
  The law OtsLinks, walked.
  The law OtsSigns, walked.
-/
import Derived.Test.YtpljjmdkagbjpaaDoorOd14
namespace Go.Proofs.YtpljjmdkagbjpaaDoor
open Go.RowKit

theorem eql27 {p : List Int} (hb : Bytes p) (h : p.length = 16) (w : World) : (binOp .eql 27 (dgV p) (dgV p)).run Tryd.prog w = .ok (.bool true) w := by
  have := run_equalIn_bytes (P := Tryd.prog) w 9998 27 5 16 Tryd.underlying27 Tryd.underlying5 size5 (p.map fun n => UInt8.ofNat n.toNat) (p.map fun n => UInt8.ofNat n.toNat) (by simp [h]) (by simp [h])
  rw [bv_cells hb] at this
  rw [run_eql_struct, this]
  simp
theorem eqg27 (p q : List Int) (x y : Operand) (w : World) : (eqGuard .eql 27 x y (dgV p) (dgV q)).run Tryd.prog w = .ok () w := by kernel_rfl
theorem to_any (d x : Int) (w : World) : Calls Tryd.prog 10 #[nameV d x] w fun q w' => q = .returned (nameV d x) ∧ Below w.heap.size w w' := by
  go_enter Tryd.func10, Tryd.ntmps10
  go_wp2_with fail
  have hr : Blk ((w.alloc (.cells #[.int .i64 d, .int .u32 x] 24)).alloc (.cells #[.int .i64 d, .int .u32 x] 29)) (w.heap.size + 1) (.cells #[.int .i64 d, .int .u32 x] 29) := Blk.newAt _ (by simp)
  refine bodyPost_ret (v := nameV d x) ?_ rfl ⟨rfl, more (more (Below.refl _ _) _) _⟩
  exact results_cell_row rfl _ _ (w.heap.size + 1) 29 _ (0, 0) _ rfl hr Tryd.underlying29 rfl (cellsN29 d x)
set_option maxRecDepth 100000 in
set_option maxHeartbeats 2000000 in
theorem links_core (d x c s : Int) (z : List Int) (w : World) (hk : KonIs w) (hx : 0 ≤ x ∧ x < 4294967296) (hz : z.length = 16) (hzb : Bytes z) :
    Calls Tryd.prog 3 #[nameV d x, .int .i64 c, .int .i64 s, dgV z] w fun e w' => e = .returned (.bool true) ∧ Below w.heap.size w w' := by
  have HK := Kp.mk hk
  have HX := Kp.mk hx
  have HZ := Kp.mk hz
  have HZB := Kp.mk hzb
  obtain ⟨q0, hq⟩ : ∃ q, q = shortL (linkT d x c s z) := ⟨_, rfl⟩
  have HQ : Kp (shortL (linkT d x c s z) = q0) := ⟨hq.symm⟩
  have HQl : Kp (q0.length = 16) := ⟨by rw [hq]; exact shortL_len _⟩
  have HQb : Kp (Bytes q0) := ⟨by rw [hq]; exact shortL_bytes _⟩
  have HTl : Kp ((headL d x ++ ([c % 256, s % 256] ++ z)).length = 23) := ⟨by simp [headL_len, hz]⟩
  clear hk hx hz hzb hq
  go_enter Tryd.func3, Tryd.ntmps3
  go_wp2_with fail
  obtain ⟨A, hA⟩ : ∃ A, A = w.heap.size := ⟨_, rfl⟩
  have HA := Kp.mk hA
  rw [← hA]
  refine wp_world (fun W => Blk W A (.cells #[.int .i64 d, .int .u32 x] 24) ∧ Row W (A + 1) 25 .u8 z ∧ Below A w W) ⟨?_, ?_, ?_⟩ ?_
  · exact Blk.old (Blk.newAt _ hA) _
  · exact Blk.newAt _ (by simp [hA])
  · rw [hA]; exact more (more (Below.refl _ _) _) _
  rintro W ⟨h1, h2, h4⟩
  have G1 := Kp.mk h1
  have G2 := Kp.mk h2
  have G4 := Kp.mk h4
  clear h1 h2 h4 hA
  refine wp_region_pred (fun w' => Blk w' A (.cells #[.int .i64 d, .int .u32 x] 24) ∧ Row w' (A + 1) 25 .u8 z ∧ Below A w w') [0, 1, 2, 3, 4, 5, 6, 7, 8, 9, 10, 11, 12, 13, 14, 15] [16]
    (fun ι w' v => match ι with
      | 2 | 3 | 8 => v = nameV d x
      | 4 | 9 => v = .int .i64 c
      | 5 | 10 => v = .int .i64 s
      | 6 | 11 => v = dgV z
      | 7 | 13 => v = dgV q0
      | 12 => HoldsB w' w'.heap.size v (linkT d x c s z)
      | _ => v = .bool true)
    [[], [(0, some 9)], [(1, some 10)], [(1, some 10), (2, some 11)], [(1, some 10)], [(1, some 10)], [(1, some 10)], [(1, some 10), (3, some 12), (4, some 13), (5, some 14), (6, some 15)], [(1, some 10)], [(1, some 10)], [(1, some 10)], [(1, some 10)], [(1, some 10), (7, some 16), (8, some 17), (9, some 18), (10, some 19), (11, some 20)], [(1, some 10), (12, some 21)], [(1, some 10), (7, some 16), (13, some 22)], [(1, some 10), (14, some 23)]]
    [(0, some 9), (1, some 10), (2, some 11), (3, some 12), (4, some 13), (5, some 14), (6, some 15), (7, some 16), (8, some 17), (9, some 18), (10, some 19), (11, some 20), (12, some 21), (13, some 22), (14, some 23), (15, some 24)]
    (by kernel_rfl) (by kernel_rfl) (by kernel_rfl) (by kernel_rfl) (by kernel_rfl) (by kernel_rfl) (by decide) (by decide) (fun w1 w2 h hb => ⟨h.1.keep hb, h.2.1.keep hb, h.2.2.trans (hb.mono (Nat.le_of_lt h.1.lt))⟩) ?_ ⟨G1.out.draw, G2.out.drew, G4.out.drew⟩ ?_ ?_
  · intro ι w1 w2 v h hb
    by_cases h12 : ι = 12
    · subst h12
      exact (HoldsB.keep h hb).mono hb.size
    match ι, h12, h with
    | 0, _, h => exact h
    | 1, _, h => exact h
    | 2, _, h => exact h
    | 3, _, h => exact h
    | 4, _, h => exact h
    | 5, _, h => exact h
    | 6, _, h => exact h
    | 7, _, h => exact h
    | 8, _, h => exact h
    | 9, _, h => exact h
    | 10, _, h => exact h
    | 11, _, h => exact h
    | 12, g, h => exact absurd rfl g
    | 13, _, h => exact h
    | 14, _, h => exact h
    | 15, _, h => exact h
    | _ + 16, _, h => exact h
  · refine ⟨fun γ wx hS h => ?_, fun γ wx hS h => ?_, fun γ wx hS h => ?_, fun γ wx hS h => ?_, fun γ wx hS h => ?_, fun γ wx hS h => ?_, fun γ wx hS h => ?_, fun γ wx hS h => ?_, fun γ wx hS h => ?_, fun γ wx hS h => ?_, fun γ wx hS h => ?_, fun γ wx hS h => ?_, fun γ wx hS h => ?_, fun γ wx hS h => ?_, fun γ wx hS h => ?_, fun γ wx hS h => ?_, trivial⟩
    · refine ⟨_, rfl, Or.inl ⟨rfl, predRun_call (f := 8) (args := #[]) (by simp only [putE]; go_simp) ?_⟩⟩
      exact (awake_any wx).mono fun e w2 ⟨h1, h2⟩ => ⟨_, h1, rfl, h2⟩
    · have h0 := h
      have e0 : γ 0 = .bool true := h0
      refine ⟨_, rfl, Or.inl ⟨rfl, predRun_value (v := .bool true) (by simp only [putE, e0]; first | rfl | (go_simp; done) | (go_simp; with_reducible rfl) | (go_simp; rfl)) rfl⟩⟩
    · have h1 := h
      have e1 : γ 1 = .bool true := h1
      refine ⟨_, rfl, Or.inl ⟨(by simp only [putE, e1]; first | kernel_rfl | rfl), predRun_value (exec_load_blk 24 (.tmp 4) rfl (A) rfl 24 _ (0, 0) _ hS.1 Tryd.underlying24 rfl (cellsN24 d x)) rfl⟩⟩
    · obtain ⟨h1, h2⟩ := h
      have e1 : γ 1 = .bool true := h1
      have e2 : γ 2 = nameV d x := h2
      refine ⟨_, rfl, Or.inl ⟨(by simp only [putE, e1, e2]; first | kernel_rfl | rfl), predRun_call (f := 10) (args := #[nameV d x]) (by simp only [putE, e1, e2]; go_simp) ?_⟩⟩
      exact (to_any d x wx).mono fun e w2 ⟨h1, h2⟩ => ⟨_, h1, rfl, h2⟩
    · have h1 := h
      have e1 : γ 1 = .bool true := h1
      refine ⟨_, rfl, Or.inl ⟨(by simp only [putE, e1]; first | kernel_rfl | rfl), predRun_value (v := .int .i64 c) (by simp only [putE, e1]; first | rfl | (go_simp; done) | (go_simp; with_reducible rfl) | (go_simp; rfl)) rfl⟩⟩
    · have h1 := h
      have e1 : γ 1 = .bool true := h1
      refine ⟨_, rfl, Or.inl ⟨(by simp only [putE, e1]; first | kernel_rfl | rfl), predRun_value (v := .int .i64 s) (by simp only [putE, e1]; first | rfl | (go_simp; done) | (go_simp; with_reducible rfl) | (go_simp; rfl)) rfl⟩⟩
    · have h1 := h
      have e1 : γ 1 = .bool true := h1
      refine ⟨_, rfl, Or.inl ⟨(by simp only [putE, e1]; first | kernel_rfl | rfl), predRun_value (exec_load_blk 25 (.tmp 7) rfl (A + 1) rfl 25 _ (0, 0) _ hS.2.1 Tryd.underlying25 rfl (cells49 HZ.out)) rfl⟩⟩
    · obtain ⟨h1, h3, h4, h5, h6⟩ := h
      have e1 : γ 1 = .bool true := h1
      have e3 : γ 3 = nameV d x := h3
      have e4 : γ 4 = .int .i64 c := h4
      have e5 : γ 5 = .int .i64 s := h5
      have e6 : γ 6 = dgV z := h6
      refine ⟨_, rfl, Or.inl ⟨(by simp only [putE, e1, e3, e4, e5, e6]; first | kernel_rfl | rfl), predRun_call (f := 9) (args := #[nameV d x, .int .i64 c, .int .i64 s, dgV z]) (by simp only [putE, e1, e3, e4, e5, e6]; go_simp) ?_⟩⟩
      exact (link_any d x c s z wx (HK.out.keep (by rw [← HA.out]; exact hS.2.2)) HX.out HZ.out HZB.out).mono fun e w2 ⟨h1, h2⟩ => ⟨_, h1, (show dgV (shortL (linkT d x c s z)) = dgV q0 by rw [HQ.out]), h2⟩
    · have h1 := h
      have e1 : γ 1 = .bool true := h1
      refine ⟨_, rfl, Or.inl ⟨(by simp only [putE, e1]; first | kernel_rfl | rfl), predRun_value (exec_load_blk 24 (.tmp 4) rfl (A) rfl 24 _ (0, 0) _ hS.1 Tryd.underlying24 rfl (cellsN24 d x)) rfl⟩⟩
    · have h1 := h
      have e1 : γ 1 = .bool true := h1
      refine ⟨_, rfl, Or.inl ⟨(by simp only [putE, e1]; first | kernel_rfl | rfl), predRun_value (v := .int .i64 c) (by simp only [putE, e1]; first | rfl | (go_simp; done) | (go_simp; with_reducible rfl) | (go_simp; rfl)) rfl⟩⟩
    · have h1 := h
      have e1 : γ 1 = .bool true := h1
      refine ⟨_, rfl, Or.inl ⟨(by simp only [putE, e1]; first | kernel_rfl | rfl), predRun_value (v := .int .i64 s) (by simp only [putE, e1]; first | rfl | (go_simp; done) | (go_simp; with_reducible rfl) | (go_simp; rfl)) rfl⟩⟩
    · have h1 := h
      have e1 : γ 1 = .bool true := h1
      refine ⟨_, rfl, Or.inl ⟨(by simp only [putE, e1]; first | kernel_rfl | rfl), predRun_value (exec_load_blk 25 (.tmp 7) rfl (A + 1) rfl 25 _ (0, 0) _ hS.2.1 Tryd.underlying25 rfl (cells49 HZ.out)) rfl⟩⟩
    · obtain ⟨h1, h7, h8, h9, h10, h11⟩ := h
      have e1 : γ 1 = .bool true := h1
      have e7 : γ 7 = dgV q0 := h7
      have e8 : γ 8 = nameV d x := h8
      have e9 : γ 9 = .int .i64 c := h9
      have e10 : γ 10 = .int .i64 s := h10
      have e11 : γ 11 = dgV z := h11
      refine ⟨_, rfl, Or.inl ⟨(by simp only [putE, e1, e7, e8, e9, e10, e11]; first | kernel_rfl | rfl), predRun_call (f := 12) (args := #[nameV d x, .int .i64 c, .int .i64 s, dgV z]) (by simp only [putE, e1, e7, e8, e9, e10, e11]; go_simp) ?_⟩⟩
      exact (rlink_any d x c s z wx HX.out HZ.out HZB.out).mono fun e w2 ⟨v', h1, h2, h3⟩ => ⟨_, h1, h2, h3⟩
    · obtain ⟨h1, h12⟩ := h
      have e1 : γ 1 = .bool true := h1
      have p12 : HoldsB wx wx.heap.size (γ 12) (linkT d x c s z) := h12
      obtain ⟨a, n, c1, e12, _⟩ := p12.slice
      rw [e12] at p12
      refine ⟨_, rfl, Or.inl ⟨(by simp only [putE, e1]; first | kernel_rfl | rfl), predRun_call (f := 11) (args := #[.slice a n c1]) (by simp only [putE, e12]; go_simp) ?_⟩⟩
      exact (of_any _ _ 87 _ wx p12 (by rw [HTl.out]; omega)).mono fun e w2 ⟨h1, h2⟩ => ⟨_, h1, (show dgV (shortL (linkT d x c s z)) = dgV q0 by rw [HQ.out]), h2⟩
    · obtain ⟨h1, h7, h13⟩ := h
      have e1 : γ 1 = .bool true := h1
      have e7 : γ 7 = dgV q0 := h7
      have e13 : γ 13 = dgV q0 := h13
      refine ⟨_, rfl, Or.inl ⟨(by simp only [putE, e1, e7, e13]; first | kernel_rfl | rfl), predRun_value (v := .bool true) (by simp only [putE, e1, e7, e13]; have hg := eqg27 q0 q0; have he := eql27 HQb.out HQl.out; first | rfl | (go_simp; done) | (go_simp; with_reducible rfl) | (go_simp; rfl)) rfl⟩⟩
    · obtain ⟨h1, h14⟩ := h
      have e1 : γ 1 = .bool true := h1
      have e14 : γ 14 = .bool true := h14
      refine ⟨_, rfl, Or.inl ⟨rfl, predRun_value (v := .bool true) (by simp only [putE, e1, e14]; first | rfl | (go_simp; done) | (go_simp; with_reducible rfl) | (go_simp; rfl)) rfl⟩⟩
  · intro γ w9 hS h
    have h15 : γ 15 = .bool true := h.2.2.2.2.2.2.2.2.2.2.2.2.2.2.2
    have HB := Kp.mk hS.2.2
    simp only [putE, Act.put, List.setIfInBounds_toArray, List.set_cons_zero, List.set_cons_succ]
    rw [h15]
    clear h hS h15 G1 G2 G4
    refine wpOps_step rfl rfl ?_
    refine wp_assign_end rfl rfl ?_
    refine wpOps_done ?_
    go_wp2_with fail
    go_ret
    exact ⟨rfl, by rw [← HA.out]; exact HB.out⟩
theorem otsLinks_walk (x0_0 x0_1 x1 x2 : Int) (x3 : List Int) (w : World) (w0_0 : (Lit.int .i64 x0_0).wf = true) (w0_1 : (Lit.int .u32 x0_1).wf = true) (w1 : (Lit.int .i64 x1).wf = true) (w2 : (Lit.int .i64 x2).wf = true) (l3 : x3.length = 16) (b3 : Bytes x3) (hk : KonIs w) :
    Calls Tryd.prog 3 #[.agg #[.int .i64 x0_0, .int .u32 x0_1], .int .i64 x1, .int .i64 x2, .agg (kv .u8 x3).toArray] w fun e w' => e = .returned (.bool true) ∧ Below w.heap.size w w' :=
  links_core x0_0 x0_1 x1 x2 x3 w hk (by have hb1 : IntKind.u32.min = 0 := rfl; have hb2 : IntKind.u32.max = 4294967295 := rfl; simp [Lit.wf, hb1, hb2] at w0_1; omega) l3 b3
end Go.Proofs.YtpljjmdkagbjpaaDoor

namespace Go.Proofs.YtpljjmdkagbjpaaDoor
open Go.RowKit

abbrev z27r : Obj := .cells (kv .u8 (fill 16 [])).toArray 27
abbrev z41r : Obj := .cells (kv .u8 (List.replicate 1088 0)).toArray 41
theorem exec_alloc_row {P : Program} {w : World} {o : Oper} {a : Act} (t : TypeId) (ho : o.op = .alloc t) (cs : Array Value) (n : Nat) (hi : (P.info? t).map (fun i => (i.zero, i.size)) = some (some (.agg cs), n)) :
    (execOp a.eval o).run P w = .ok (.value (.pointer (some ⟨w.heap.size, 0, none⟩))) (w.alloc (.cells cs t)) := by
  unfold execOp
  simp only [ho, Sem.run_bind, alloc_row hi, Result.andThen_ok, Sem.run_pure]
theorem eql43_same {S : List Int} (hS : S.length = 1088) (hSb : Bytes S) (w : World) : (binOp .eql 43 (.agg (kv .u8 S).toArray) (.agg (kv .u8 S).toArray)).run Tryd.prog w = .ok (.bool true) w := by
  have h := eql43 hS hSb hS hSb w
  rw [decide_eq_true rfl] at h
  exact h
set_option maxRecDepth 100000 in
set_option maxHeartbeats 16000000 in
theorem signs_core (s : List Int) (d x : Int) (m : List Int) (w : World) (hk : KonIs w) (hs : s.length = 32) (hsb : Bytes s) (hx : 0 ≤ x ∧ x < 4294967296) (hm : m.length = 16) (hmb : Bytes m) :
    Calls Tryd.prog 4 #[.agg (kv .u8 s).toArray, nameV d x, dgV m] w fun e w' => e = .returned (.bool true) ∧ Below w.heap.size w w' := by
  have HK := Kp.mk hk
  have HX := Kp.mk hx
  have HS := Kp.mk (And.intro hs hsb)
  have HM := Kp.mk (And.intro hm hmb)
  have hC := fun (w : World) => box_row (t := 35) (cs := kv .u8 s) (cellsS35 hs) w
  have hC2 := fun (w : World) => box_row (t := 25) (cs := kv .u8 m) (cellsT25 hm) w
  obtain ⟨q0, hq⟩ : ∃ q, q = shortL (wholeT d x (topS s d x)) := ⟨_, rfl⟩
  have HQ := Kp.mk hq
  have HQl : Kp (q0.length = 16) := ⟨by rw [hq]; exact shortL_len _⟩
  have HQb : Kp (Bytes q0) := ⟨by rw [hq]; exact shortL_bytes _⟩
  obtain ⟨y, hy⟩ : ∃ y, y = signS s d x m := ⟨_, rfl⟩
  have HY := Kp.mk hy
  have HYl : Kp (y.length = 1088 ∧ Bytes y) := ⟨by rw [hy]; exact ⟨signS_len _ _ _ _, signS_bytes _ _ _ _⟩⟩
  have HCq27 := Kp.mk (cells50 HQl.out)
  have HCq25 := Kp.mk (cellsT25 HQl.out)
  have HZq := Kp.mk (size50 HQl.out)
  have HC41 := Kp.mk (cells41 HYl.out.1)
  have HZ41 : Kp ((kv .u8 (List.replicate 1088 0)).toArray.size = (kv .u8 y).toArray.size) := ⟨by rw [kv_size, kv_size, HYl.out.1, List.length_replicate]⟩
  clear hk hx hs hsb hm hmb hq hy
  go_enter Tryd.func4, Tryd.ntmps4
  go_wp2_with (first
    | (refine wpList_box_eq rfl 35 (.tmp 0) rfl _ rfl _ _ (hC _) ?_)
    | (refine wpList_box_eq rfl 25 (.tmp 2) rfl _ rfl _ _ (hC2 _) ?_))
  obtain ⟨A, hA⟩ : ∃ A, A = w.heap.size := ⟨_, rfl⟩
  have HA := Kp.mk hA
  rw [← hA]
  refine wp_world (fun W => Row W A 35 .u8 s ∧ Blk W (A + 1) (.cells #[.int .i64 d, .int .u32 x] 24) ∧ Row W (A + 2) 25 .u8 m ∧ Below A w W) ⟨Blk.old (Blk.old (Blk.newAt _ hA) _) _, Blk.old (Blk.newAt _ (by simp [hA])) _, Blk.newAt _ (by simp [hA]), by rw [hA]; exact more (more (more (Below.refl _ _) _) _) _⟩ ?_
  rw [show A + 1 + 1 = A + 2 from rfl]
  clear hA hC hC2
  rintro W ⟨h1, h2, h3, h4⟩
  have G1 := Kp.mk h1
  have G2 := Kp.mk h2
  have G3 := Kp.mk h3
  have G4 := Kp.mk h4
  clear h1 h2 h3 h4
  refine wp_region_pred (fun w' => Row w' A 35 .u8 s ∧ Blk w' (A + 1) (.cells #[.int .i64 d, .int .u32 x] 24) ∧ Row w' (A + 2) 25 .u8 m ∧ Below A w w') [0, 1, 2, 3, 4] [5]
    (fun ι w' v => match ι with
      | 0 => v = .agg (kv .u8 s).toArray
      | 1 | 2 => v = nameV d x
      | 3 => v = dgV q0
      | 4 => ∃ gq, v = .pointer (some ⟨gq, 0, none⟩) ∧ A + 2 < gq ∧ Row w' gq 27 .u8 (fill 16 [])
      | _ => v = .bool true)
    [[], [], [(1, some 12)], [(0, some 11), (2, some 13)], []]
    [(0, some 11), (1, some 12), (2, some 13), (3, some 14), (4, some 7)]
    (by kernel_rfl) (by kernel_rfl) (by kernel_rfl) (by kernel_rfl) (by kernel_rfl) (by kernel_rfl) (by decide) (by decide) (fun w1 w2 h hb => ⟨h.1.keep hb, h.2.1.keep hb, h.2.2.1.keep hb, h.2.2.2.trans (hb.mono (Nat.le_of_lt h.1.lt))⟩) ?_ ⟨G1.out.drew, G2.out.draw, G3.out.drew, G4.out.drew⟩ ?_ ?_
  · intro ι w1 w2 v h hb
    by_cases h4 : ι = 4
    · subst h4
      exact (show ∃ gq, v = .pointer (some ⟨gq, 0, none⟩) ∧ A + 2 < gq ∧ Row w2 gq 27 .u8 (fill 16 []) from (by obtain ⟨gq, e, h1, hg⟩ := h; exact ⟨gq, e, h1, hg.keep hb⟩))
    match ι, h4, h with
    | 0, _, h => exact h
    | 1, _, h => exact h
    | 2, _, h => exact h
    | 3, _, h => exact h
    | 4, g, h => exact absurd rfl g
    | _ + 5, _, h => exact h
  · refine ⟨fun γ wx hS h => ?_, fun γ wx hS h => ?_, fun γ wx hS h => ?_, fun γ wx hS h => ?_, fun γ wx hS h => ?_, trivial⟩
    · refine ⟨_, rfl, Or.inl ⟨rfl, predRun_value (exec_load_blk 35 (.tmp 3) rfl (A) rfl 35 _ (0, 0) _ hS.1 Tryd.underlying35 rfl (cellsS35 HS.out.1)) rfl⟩⟩
    · refine ⟨_, rfl, Or.inl ⟨rfl, predRun_value (exec_load_blk 24 (.tmp 4) rfl (A + 1) rfl 24 _ (0, 0) _ hS.2.1 Tryd.underlying24 rfl (cellsN24 d x)) rfl⟩⟩
    · have h1 := h
      have e1 : γ 1 = nameV d x := h1
      refine ⟨_, rfl, Or.inl ⟨rfl, predRun_call (f := 10) (args := #[nameV d x]) (by simp only [putE, e1]; go_simp) ?_⟩⟩
      exact (to_any d x wx).mono fun e w2 ⟨h1, h2⟩ => ⟨_, h1, rfl, h2⟩
    · obtain ⟨h0, h2⟩ := h
      have e0 : γ 0 = .agg (kv .u8 s).toArray := h0
      have e2 : γ 2 = nameV d x := h2
      refine ⟨_, rfl, Or.inl ⟨rfl, predRun_call (f := 13) (args := #[.agg (kv .u8 s).toArray, nameV d x]) (by simp only [putE, e0, e2]; go_simp) ?_⟩⟩
      exact (public_any s d x wx (HK.out.keep (by rw [← HA.out]; exact hS.2.2.2)) HX.out HS.out.1 HS.out.2).mono fun e w2 ⟨h1, h2⟩ => ⟨_, h1, (show dgV (shortL (wholeT d x (topS s d x))) = dgV q0 by rw [HQ.out]), h2⟩
    · refine ⟨_, rfl, Or.inl ⟨rfl, predRun_new (w' := wx.alloc z27r) (v := .pointer (some ⟨wx.heap.size, 0, none⟩)) (by simp only [putE]; first | rfl | (go_simp; done) | (go_simp; rfl)) (more (Below.refl _ _) _) ⟨_, rfl, hS.2.2.1.lt, Blk.new _ _⟩⟩⟩
  · intro γ w9 hS h
    have e3 : γ 3 = dgV q0 := h.2.2.2.1
    obtain ⟨g1, e4, hAg, hg⟩ : ∃ gq, γ 4 = .pointer (some ⟨gq, 0, none⟩) ∧ A + 2 < gq ∧ Row w9 gq 27 .u8 (fill 16 []) := h.2.2.2.2
    simp only [putE, Act.put, List.setIfInBounds_toArray, List.set_cons_zero, List.set_cons_succ]
    rw [e3, e4]
    have HGA : Kp (Row w9 g1 27 .u8 (fill 16 [])) := ⟨hg⟩
    obtain ⟨W9, hW9⟩ : ∃ W9, W9 = w9.setRow g1 (kv .u8 q0).toArray := ⟨_, rfl⟩
    have E1 : Kp (Row W9 A 35 .u8 s) := ⟨by rw [hW9]; exact Row.otherRow hS.1 (by omega) _⟩
    have E2 : Kp (Blk W9 (A + 1) (.cells #[.int .i64 d, .int .u32 x] 24)) := ⟨by rw [hW9]; exact (setRow_other w9 g1 (A + 1) _ (by omega)).trans hS.2.1⟩
    have E3 : Kp (Row W9 (A + 2) 25 .u8 m) := ⟨by rw [hW9]; exact Row.otherRow hS.2.2.1 (by omega) _⟩
    have E5 : Kp (Row W9 g1 27 .u8 q0) := ⟨by rw [hW9]; exact HGA.out.setRow q0⟩
    have E4 : Kp (Below A w W9) := ⟨by rw [hW9]; exact Below.row hS.2.2.2 (by omega) _⟩
    have HWk := Kp.mk hW9
    clear h hS e3 e4 hg G1 G2 G3 G4 hW9
    refine wpOps_step rfl rfl ?_
    refine wp_store_row 27 (.tmp 7) (.tmp 14) rfl g1 (kv .u8 q0).toArray rfl rfl 27 _ HGA.out HCq27.out HZq.out (kv_all _ _) ?_
    rw [← HWk.out]
    clear HWk HGA
    refine wpOps_done ?_
    go_wp2_with (first
      | (refine wpList_load_row rfl 35 (.tmp 3) rfl A rfl 35 (kv .u8 s).toArray (0, 0) _ E1.out Tryd.underlying35 rfl (cellsS35 HS.out.1) ?_)
      | (refine wpList_load_row rfl 24 (.tmp 4) rfl (A + 1) rfl 24 _ (0, 0) _ E2.out Tryd.underlying24 rfl (cellsN24 d x) ?_))
    refine (rpublic_any s d x W9 HX.out HS.out.1 HS.out.2).mono ?_
    rintro q w1 ⟨v1, rfl, _, hb⟩
    rw [← HQ.out]
    obtain ⟨D, hD⟩ : ∃ D, D = w1.heap.size := ⟨_, rfl⟩
    have HD := Kp.mk hD
    have C1 := Kp.mk (E1.out.keep hb)
    have C2 := Kp.mk (Blk.keep E2.out hb)
    have C3 := Kp.mk (E3.out.keep hb)
    have C5 := Kp.mk (E5.out.keep hb)
    have C4 : Kp (Below A w w1) := ⟨E4.out.trans (hb.mono (by have := E1.out.lt; omega))⟩
    have hgD : g1 < D := by rw [hD]; exact C5.out.lt
    obtain ⟨V, hV⟩ : ∃ V, V = (w1.alloc z16r).setRow D (kv .u8 q0).toArray := ⟨_, rfl⟩
    have F1 : Kp (Row V A 35 .u8 s) := ⟨by rw [hV]; exact Row.otherRow (Row.alloc C1.out _) (by omega) _⟩
    have F2 : Kp (Blk V (A + 1) (.cells #[.int .i64 d, .int .u32 x] 24)) := ⟨by rw [hV]; exact (setRow_other _ D (A + 1) _ (by omega)).trans (Blk.old C2.out _)⟩
    have F3 : Kp (Row V (A + 2) 25 .u8 m) := ⟨by rw [hV]; exact Row.otherRow (Row.alloc C3.out _) (by omega) _⟩
    have F5 : Kp (Row V g1 27 .u8 q0) := ⟨by rw [hV]; exact Row.otherRow (Row.alloc C5.out _) (by omega) _⟩
    have F6 : Kp (Row V D 25 .u8 q0) := ⟨by rw [hV]; exact Row.setRow (k := .u8) (l := fill 16 []) (Blk.newAt z16r hD) _⟩
    have F4 : Kp (Below A w V) := ⟨by rw [hV]; exact Below.row (C4.out.alloc (by have := C1.out.lt; omega) _) (by omega) _⟩
    have HV := Kp.mk hV.symm
    clear hb hV hD C1 C2 C3 C4 C5 E1 E2 E3 E4 E5
    go_wp2_with (rw [← HD.out]; refine wpList_store_row rfl 25 (.tmp 8) (.tmp 19) rfl D (kv .u8 q0).toArray rfl rfl 25 _ (Blk.newAt z16r HD.out) HCq25.out HZq.out (kv_all _ _) ?_; refine wpl_world (· = V) HV.out ?_; clear HV; intro W0 e0; rw [e0]; clear e0)
    refine wp_region_pred (fun w' => Row w' A 35 .u8 s ∧ Blk w' (A + 1) (.cells #[.int .i64 d, .int .u32 x] 24) ∧ Row w' (A + 2) 25 .u8 m ∧ Row w' g1 27 .u8 q0 ∧ Row w' D 25 .u8 q0 ∧ Below A w w') [0, 1, 2, 3, 4, 5] [6]
      (fun ι w' v => match ι with
        | 0 => v = .agg (kv .u8 s).toArray
        | 1 | 2 => v = nameV d x
        | 3 => v = dgV m
        | 4 => v = .agg (kv .u8 y).toArray
        | 5 => ∃ gq, v = .pointer (some ⟨gq, 0, none⟩) ∧ D < gq ∧ Row w' gq 41 .u8 (List.replicate 1088 0)
        | _ => v = .bool true)
      [[], [], [(1, some 22)], [], [(0, some 21), (2, some 23), (3, some 24)], []]
      [(0, some 21), (1, some 22), (2, some 23), (3, some 24), (4, some 25), (5, some 10)]
      (by kernel_rfl) (by kernel_rfl) (by kernel_rfl) (by kernel_rfl) (by kernel_rfl) (by kernel_rfl) (by decide) (by decide) (fun w1 w2 h hb => ⟨h.1.keep hb, h.2.1.keep hb, h.2.2.1.keep hb, h.2.2.2.1.keep hb, h.2.2.2.2.1.keep hb, h.2.2.2.2.2.trans (hb.mono (Nat.le_of_lt h.1.lt))⟩) ?_ ⟨F1.out.drew, F2.out.draw, F3.out.drew, F5.out.drew, F6.out.drew, F4.out.drew⟩ ?_ ?_
    · intro ι w1 w2 v h hb
      by_cases h5 : ι = 5
      · subst h5
        exact (show ∃ gq, v = .pointer (some ⟨gq, 0, none⟩) ∧ D < gq ∧ Row w2 gq 41 .u8 (List.replicate 1088 0) from (by obtain ⟨gq, e, h1, hg⟩ := h; exact ⟨gq, e, h1, hg.keep hb⟩))
      match ι, h5, h with
      | 0, _, h => exact h
      | 1, _, h => exact h
      | 2, _, h => exact h
      | 3, _, h => exact h
      | 4, _, h => exact h
      | 5, g, h => exact absurd rfl g
      | _ + 6, _, h => exact h
    · refine ⟨fun γ wx hS h => ?_, fun γ wx hS h => ?_, fun γ wx hS h => ?_, fun γ wx hS h => ?_, fun γ wx hS h => ?_, fun γ wx hS h => ?_, trivial⟩
      · refine ⟨_, rfl, Or.inl ⟨rfl, predRun_value (exec_load_blk 35 (.tmp 3) rfl (A) rfl 35 _ (0, 0) _ hS.1 Tryd.underlying35 rfl (cellsS35 HS.out.1)) rfl⟩⟩
      · refine ⟨_, rfl, Or.inl ⟨rfl, predRun_value (exec_load_blk 24 (.tmp 4) rfl (A + 1) rfl 24 _ (0, 0) _ hS.2.1 Tryd.underlying24 rfl (cellsN24 d x)) rfl⟩⟩
      · have h1 := h
        have e1 : γ 1 = nameV d x := h1
        refine ⟨_, rfl, Or.inl ⟨rfl, predRun_call (f := 10) (args := #[nameV d x]) (by simp only [putE, e1]; go_simp) ?_⟩⟩
        exact (to_any d x wx).mono fun e w2 ⟨h1, h2⟩ => ⟨_, h1, rfl, h2⟩
      · refine ⟨_, rfl, Or.inl ⟨rfl, predRun_value (exec_load_blk 25 (.tmp 5) rfl (A + 2) rfl 25 _ (0, 0) _ hS.2.2.1 Tryd.underlying25 rfl (cellsT25 HM.out.1)) rfl⟩⟩
      · obtain ⟨h0, h2, h3⟩ := h
        have e0 : γ 0 = .agg (kv .u8 s).toArray := h0
        have e2 : γ 2 = nameV d x := h2
        have e3 : γ 3 = dgV m := h3
        refine ⟨_, rfl, Or.inl ⟨rfl, predRun_call (f := 15) (args := #[.agg (kv .u8 s).toArray, nameV d x, dgV m]) (by simp only [putE, e0, e2, e3]; go_simp) ?_⟩⟩
        exact (sign_any s d x m wx (HK.out.keep (by rw [← HA.out]; exact hS.2.2.2.2.2)) HX.out HS.out.1 HS.out.2 HM.out.1 HM.out.2).mono fun e w2 ⟨h1, h2⟩ => ⟨_, h1, (show Value.agg (kv .u8 (signS s d x m)).toArray = .agg (kv .u8 y).toArray by rw [HY.out]), h2⟩
      · refine ⟨_, rfl, Or.inl ⟨rfl, predRun_new (w' := wx.alloc z41r) (v := .pointer (some ⟨wx.heap.size, 0, none⟩)) (exec_alloc_row 41 rfl _ _ infoz41) (more (Below.refl _ _) _) ⟨_, rfl, hS.2.2.2.2.1.lt, Blk.new _ _⟩⟩⟩
    · intro γ w9 hS h
      have e4 : γ 4 = .agg (kv .u8 y).toArray := h.2.2.2.2.1
      obtain ⟨g3, e5, hDg, hg⟩ : ∃ gq, γ 5 = .pointer (some ⟨gq, 0, none⟩) ∧ D < gq ∧ Row w9 gq 41 .u8 (List.replicate 1088 0) := h.2.2.2.2.2
      simp only [putE, Act.put, List.setIfInBounds_toArray, List.set_cons_zero, List.set_cons_succ]
      rw [e4, e5]
      have HGA : Kp (Row w9 g3 41 .u8 (List.replicate 1088 0)) := ⟨hg⟩
      obtain ⟨W9, hW9⟩ : ∃ W9, W9 = w9.setRow g3 (kv .u8 y).toArray := ⟨_, rfl⟩
      have E1 : Kp (Row W9 A 35 .u8 s) := ⟨by rw [hW9]; exact Row.otherRow hS.1 (by omega) _⟩
      have E2 : Kp (Blk W9 (A + 1) (.cells #[.int .i64 d, .int .u32 x] 24)) := ⟨by rw [hW9]; exact (setRow_other w9 g3 (A + 1) _ (by omega)).trans hS.2.1⟩
      have E3 : Kp (Row W9 (A + 2) 25 .u8 m) := ⟨by rw [hW9]; exact Row.otherRow hS.2.2.1 (by omega) _⟩
      have E5 : Kp (Row W9 g1 27 .u8 q0) := ⟨by rw [hW9]; exact Row.otherRow hS.2.2.2.1 (by omega) _⟩
      have E6 : Kp (Row W9 D 25 .u8 q0) := ⟨by rw [hW9]; exact Row.otherRow hS.2.2.2.2.1 (by omega) _⟩
      have E7 : Kp (Row W9 g3 41 .u8 y) := ⟨by rw [hW9]; exact HGA.out.setRow y⟩
      have E4 : Kp (Below A w W9) := ⟨by rw [hW9]; exact Below.row hS.2.2.2.2.2 (by omega) _⟩
      have HWk := Kp.mk hW9
      clear h hS e4 e5 hg F1 F2 F3 F4 F5 F6 hW9
      refine wpOps_step rfl rfl ?_
      refine wp_store_row 41 (.tmp 10) (.tmp 25) rfl g3 (kv .u8 y).toArray rfl rfl 41 _ HGA.out HC41.out HZ41.out (kv_all _ _) ?_
      rw [← HWk.out]
      clear HWk HGA
      refine wpOps_done ?_
      go_wp2_with fail
      refine wp_region_pred (fun w' => Row w' A 35 .u8 s ∧ Blk w' (A + 1) (.cells #[.int .i64 d, .int .u32 x] 24) ∧ Row w' (A + 2) 25 .u8 m ∧ Row w' g1 27 .u8 q0 ∧ Row w' D 25 .u8 q0 ∧ Row w' g3 41 .u8 y ∧ Below A w w') [0, 1, 2, 3, 4, 5, 6, 7, 8, 9, 10, 11, 12, 13, 14, 15, 16, 17, 18, 19, 20, 21, 22, 23] [24]
        (fun ι w' v => match ι with
          | 2 | 3 | 20 | 21 => v = dgV q0
          | 7 | 8 | 12 | 19 => v = .agg (kv .u8 y).toArray
          | 9 => v = .agg (kv .u8 s).toArray
          | 10 | 16 | 17 => v = nameV d x
          | 11 | 18 => v = dgV m
          | _ => v = .bool true)
        [[], [(0, some 26)], [(1, some 27)], [(1, some 27)], [(1, some 27), (2, some 28), (3, some 29)], [(1, some 27), (4, some 30)], [(1, some 27), (5, some 31)], [(6, some 32)], [(6, some 32), (7, some 33)], [(6, some 32)], [(6, some 32)], [(6, some 32)], [(6, some 32), (8, some 34), (9, some 35), (10, some 36), (11, some 37)], [(6, some 32), (8, some 34), (12, some 38)], [(6, some 32), (13, some 39)], [(12, some 38), (14, some 40)], [(15, some 41)], [(15, some 41), (16, some 42)], [(15, some 41)], [(15, some 41)], [(15, some 41), (17, some 43), (18, some 44), (19, some 45)], [(15, some 41)], [(15, some 41), (20, some 46), (21, some 47)], [(15, some 41), (22, some 48)]]
        [(0, some 26), (1, some 27), (2, some 28), (3, some 29), (4, some 30), (5, some 31), (6, some 32), (7, some 33), (8, some 34), (9, some 35), (10, some 36), (11, some 37), (12, some 38), (13, some 39), (14, some 40), (15, some 41), (16, some 42), (17, some 43), (18, some 44), (19, some 45), (20, some 46), (21, some 47), (22, some 48), (23, some 49)]
        (by kernel_rfl) (by kernel_rfl) (by kernel_rfl) (by kernel_rfl) (by kernel_rfl) (by kernel_rfl) (by decide) (by decide) (fun w1 w2 h hb => ⟨h.1.keep hb, h.2.1.keep hb, h.2.2.1.keep hb, h.2.2.2.1.keep hb, h.2.2.2.2.1.keep hb, h.2.2.2.2.2.1.keep hb, h.2.2.2.2.2.2.trans (hb.mono (Nat.le_of_lt h.1.lt))⟩) ?_ ⟨E1.out.drew, E2.out.draw, E3.out.drew, E5.out.drew, E6.out.drew, E7.out.drew, E4.out.drew⟩ ?_ ?_
      · intro ι w1 w2 v h hb
        match ι, h with
        | 0, h => exact h
        | 1, h => exact h
        | 2, h => exact h
        | 3, h => exact h
        | 4, h => exact h
        | 5, h => exact h
        | 6, h => exact h
        | 7, h => exact h
        | 8, h => exact h
        | 9, h => exact h
        | 10, h => exact h
        | 11, h => exact h
        | 12, h => exact h
        | 13, h => exact h
        | 14, h => exact h
        | 15, h => exact h
        | 16, h => exact h
        | 17, h => exact h
        | 18, h => exact h
        | 19, h => exact h
        | 20, h => exact h
        | 21, h => exact h
        | 22, h => exact h
        | 23, h => exact h
        | _ + 24, h => exact h
      · refine ⟨fun γ wx hS h => ?_, fun γ wx hS h => ?_, fun γ wx hS h => ?_, fun γ wx hS h => ?_, fun γ wx hS h => ?_, fun γ wx hS h => ?_, fun γ wx hS h => ?_, fun γ wx hS h => ?_, fun γ wx hS h => ?_, fun γ wx hS h => ?_, fun γ wx hS h => ?_, fun γ wx hS h => ?_, fun γ wx hS h => ?_, fun γ wx hS h => ?_, fun γ wx hS h => ?_, fun γ wx hS h => ?_, fun γ wx hS h => ?_, fun γ wx hS h => ?_, fun γ wx hS h => ?_, fun γ wx hS h => ?_, fun γ wx hS h => ?_, fun γ wx hS h => ?_, fun γ wx hS h => ?_, fun γ wx hS h => ?_, trivial⟩
        · refine ⟨_, rfl, Or.inl ⟨rfl, predRun_call (f := 8) (args := #[]) (by simp only [putE]; go_simp) ?_⟩⟩
          exact (awake_any wx).mono fun e w2 ⟨h1, h2⟩ => ⟨_, h1, rfl, h2⟩
        · have h0 := h
          have e0 : γ 0 = .bool true := h0
          refine ⟨_, rfl, Or.inl ⟨rfl, predRun_value (v := .bool true) (by simp only [putE, e0]; first | rfl | (go_simp; done) | (go_simp; with_reducible rfl) | (go_simp; rfl)) rfl⟩⟩
        · have h1 := h
          have e1 : γ 1 = .bool true := h1
          refine ⟨_, rfl, Or.inl ⟨(by simp only [putE, e1]; first | kernel_rfl | rfl), predRun_value (exec_load_blk 27 (.tmp 7) rfl (g1) rfl 27 _ (0, 0) _ hS.2.2.2.1 Tryd.underlying27 rfl (cells50 HQl.out)) rfl⟩⟩
        · have h1 := h
          have e1 : γ 1 = .bool true := h1
          refine ⟨_, rfl, Or.inl ⟨(by simp only [putE, e1]; first | kernel_rfl | rfl), predRun_value (exec_load_blk 25 (.tmp 8) rfl (D) rfl 25 _ (0, 0) _ hS.2.2.2.2.1 Tryd.underlying25 rfl (cellsT25 HQl.out)) rfl⟩⟩
        · obtain ⟨h1, h2, h3⟩ := h
          have e1 : γ 1 = .bool true := h1
          have e2 : γ 2 = dgV q0 := h2
          have e3 : γ 3 = dgV q0 := h3
          refine ⟨_, rfl, Or.inl ⟨(by simp only [putE, e1, e2, e3]; first | kernel_rfl | rfl), predRun_value (v := .bool true) (by simp only [putE, e1, e2, e3]; have hg := eqg27 q0 q0; have he := eql27 HQb.out HQl.out; first | rfl | (go_simp; done) | (go_simp; with_reducible rfl) | (go_simp; rfl)) rfl⟩⟩
        · obtain ⟨h1, h4⟩ := h
          have e1 : γ 1 = .bool true := h1
          have e4 : γ 4 = .bool true := h4
          refine ⟨_, rfl, Or.inl ⟨rfl, predRun_value (v := .bool true) (by simp only [putE, e1, e4]; first | rfl | (go_simp; done) | (go_simp; with_reducible rfl) | (go_simp; rfl)) rfl⟩⟩
        · obtain ⟨h1, h5⟩ := h
          have e1 : γ 1 = .bool true := h1
          have e5 : γ 5 = .bool true := h5
          refine ⟨_, rfl, Or.inl ⟨rfl, predRun_value (v := .bool true) (by simp only [putE, e1, e5]; first | rfl | (go_simp; done) | (go_simp; with_reducible rfl) | (go_simp; rfl)) rfl⟩⟩
        · have h6 := h
          have e6 : γ 6 = .bool true := h6
          refine ⟨_, rfl, Or.inl ⟨(by simp only [putE, e6]; first | kernel_rfl | rfl), predRun_value (exec_load_blk 41 (.tmp 10) rfl (g3) rfl 41 _ (0, 0) _ hS.2.2.2.2.2.1 Tryd.underlying41 rfl HC41.out) rfl⟩⟩
        · obtain ⟨h6, h7⟩ := h
          have e6 : γ 6 = .bool true := h6
          have e7 : γ 7 = .agg (kv .u8 y).toArray := h7
          refine ⟨_, rfl, Or.inl ⟨(by simp only [putE, e6, e7]; first | kernel_rfl | rfl), predRun_call (f := 16) (args := #[.agg (kv .u8 y).toArray]) (by simp only [putE, e6, e7]; go_simp) ?_⟩⟩
          exact (from_any y wx HYl.out.1 HYl.out.2).mono fun e w2 ⟨h1, h2⟩ => ⟨_, h1, rfl, h2⟩
        · have h6 := h
          have e6 : γ 6 = .bool true := h6
          refine ⟨_, rfl, Or.inl ⟨(by simp only [putE, e6]; first | kernel_rfl | rfl), predRun_value (exec_load_blk 35 (.tmp 3) rfl (A) rfl 35 _ (0, 0) _ hS.1 Tryd.underlying35 rfl (cellsS35 HS.out.1)) rfl⟩⟩
        · have h6 := h
          have e6 : γ 6 = .bool true := h6
          refine ⟨_, rfl, Or.inl ⟨(by simp only [putE, e6]; first | kernel_rfl | rfl), predRun_value (exec_load_blk 24 (.tmp 4) rfl (A + 1) rfl 24 _ (0, 0) _ hS.2.1 Tryd.underlying24 rfl (cellsN24 d x)) rfl⟩⟩
        · have h6 := h
          have e6 : γ 6 = .bool true := h6
          refine ⟨_, rfl, Or.inl ⟨(by simp only [putE, e6]; first | kernel_rfl | rfl), predRun_value (exec_load_blk 25 (.tmp 5) rfl (A + 2) rfl 25 _ (0, 0) _ hS.2.2.1 Tryd.underlying25 rfl (cellsT25 HM.out.1)) rfl⟩⟩
        · obtain ⟨h6, h8, h9, h10, h11⟩ := h
          have e6 : γ 6 = .bool true := h6
          have e8 : γ 8 = .agg (kv .u8 y).toArray := h8
          have e9 : γ 9 = .agg (kv .u8 s).toArray := h9
          have e10 : γ 10 = nameV d x := h10
          have e11 : γ 11 = dgV m := h11
          refine ⟨_, rfl, Or.inl ⟨(by simp only [putE, e6, e8, e9, e10, e11]; first | kernel_rfl | rfl), predRun_call (f := 17) (args := #[.agg (kv .u8 s).toArray, nameV d x, dgV m]) (by simp only [putE, e6, e8, e9, e10, e11]; go_simp) ?_⟩⟩
          exact (rsign_any s d x m wx HX.out HS.out.1 HS.out.2 HM.out.1 HM.out.2).mono fun e w2 ⟨h1, h2⟩ => ⟨_, h1, (show Value.agg (kv .u8 (signS s d x m)).toArray = .agg (kv .u8 y).toArray by rw [HY.out]), h2⟩
        · obtain ⟨h6, h8, h12⟩ := h
          have e6 : γ 6 = .bool true := h6
          have e8 : γ 8 = .agg (kv .u8 y).toArray := h8
          have e12 : γ 12 = .agg (kv .u8 y).toArray := h12
          refine ⟨_, rfl, Or.inl ⟨(by simp only [putE, e6, e8, e12]; first | kernel_rfl | rfl), predRun_value (v := .bool true) (by simp only [putE, e6, e8, e12]; have hg := eqg43 y y; have he := eql43_same HYl.out.1 HYl.out.2; first | rfl | (go_simp; done) | (go_simp; with_reducible rfl) | (go_simp; rfl)) rfl⟩⟩
        · obtain ⟨h6, h13⟩ := h
          have e6 : γ 6 = .bool true := h6
          have e13 : γ 13 = .bool true := h13
          refine ⟨_, rfl, Or.inl ⟨rfl, predRun_value (v := .bool true) (by simp only [putE, e6, e13]; first | rfl | (go_simp; done) | (go_simp; with_reducible rfl) | (go_simp; rfl)) rfl⟩⟩
        · obtain ⟨h12, h14⟩ := h
          have e12 : γ 12 = .agg (kv .u8 y).toArray := h12
          have e14 : γ 14 = .bool true := h14
          refine ⟨_, rfl, Or.inl ⟨rfl, predRun_value (v := .bool true) (by simp only [putE, e12, e14]; first | rfl | (go_simp; done) | (go_simp; with_reducible rfl) | (go_simp; rfl)) rfl⟩⟩
        · have h15 := h
          have e15 : γ 15 = .bool true := h15
          refine ⟨_, rfl, Or.inl ⟨(by simp only [putE, e15]; first | kernel_rfl | rfl), predRun_value (exec_load_blk 24 (.tmp 4) rfl (A + 1) rfl 24 _ (0, 0) _ hS.2.1 Tryd.underlying24 rfl (cellsN24 d x)) rfl⟩⟩
        · obtain ⟨h15, h16⟩ := h
          have e15 : γ 15 = .bool true := h15
          have e16 : γ 16 = nameV d x := h16
          refine ⟨_, rfl, Or.inl ⟨(by simp only [putE, e15, e16]; first | kernel_rfl | rfl), predRun_call (f := 10) (args := #[nameV d x]) (by simp only [putE, e15, e16]; go_simp) ?_⟩⟩
          exact (to_any d x wx).mono fun e w2 ⟨h1, h2⟩ => ⟨_, h1, rfl, h2⟩
        · have h15 := h
          have e15 : γ 15 = .bool true := h15
          refine ⟨_, rfl, Or.inl ⟨(by simp only [putE, e15]; first | kernel_rfl | rfl), predRun_value (exec_load_blk 25 (.tmp 5) rfl (A + 2) rfl 25 _ (0, 0) _ hS.2.2.1 Tryd.underlying25 rfl (cellsT25 HM.out.1)) rfl⟩⟩
        · have h15 := h
          have e15 : γ 15 = .bool true := h15
          refine ⟨_, rfl, Or.inl ⟨(by simp only [putE, e15]; first | kernel_rfl | rfl), predRun_value (exec_load_blk 41 (.tmp 10) rfl (g3) rfl 41 _ (0, 0) _ hS.2.2.2.2.2.1 Tryd.underlying41 rfl HC41.out) rfl⟩⟩
        · obtain ⟨h15, h17, h18, h19⟩ := h
          have e15 : γ 15 = .bool true := h15
          have e17 : γ 17 = nameV d x := h17
          have e18 : γ 18 = dgV m := h18
          have e19 : γ 19 = .agg (kv .u8 y).toArray := h19
          refine ⟨_, rfl, Or.inl ⟨(by simp only [putE, e15, e17, e18, e19]; first | kernel_rfl | rfl), predRun_call (f := 18) (args := #[nameV d x, dgV m, .agg (kv .u8 y).toArray]) (by simp only [putE, e15, e17, e18, e19]; go_simp) ?_⟩⟩
          exact (recover_any d x m y wx (HK.out.keep (by rw [← HA.out]; exact hS.2.2.2.2.2.2)) HX.out HM.out.1 HM.out.2 HYl.out.1 HYl.out.2).mono fun e w2 ⟨h1, h2⟩ => ⟨_, h1, (show dgV (shortL (wholeT d x (recL d x m y 68))) = dgV q0 by rw [HY.out, recL_sign, ← HQ.out]), h2⟩
        · have h15 := h
          have e15 : γ 15 = .bool true := h15
          refine ⟨_, rfl, Or.inl ⟨(by simp only [putE, e15]; first | kernel_rfl | rfl), predRun_value (exec_load_blk 27 (.tmp 7) rfl (g1) rfl 27 _ (0, 0) _ hS.2.2.2.1 Tryd.underlying27 rfl (cells50 HQl.out)) rfl⟩⟩
        · obtain ⟨h15, h20, h21⟩ := h
          have e15 : γ 15 = .bool true := h15
          have e20 : γ 20 = dgV q0 := h20
          have e21 : γ 21 = dgV q0 := h21
          refine ⟨_, rfl, Or.inl ⟨(by simp only [putE, e15, e20, e21]; first | kernel_rfl | rfl), predRun_value (v := .bool true) (by simp only [putE, e15, e20, e21]; have hg := eqg27 q0 q0; have he := eql27 HQb.out HQl.out; first | rfl | (go_simp; done) | (go_simp; with_reducible rfl) | (go_simp; rfl)) rfl⟩⟩
        · obtain ⟨h15, h22⟩ := h
          have e15 : γ 15 = .bool true := h15
          have e22 : γ 22 = .bool true := h22
          refine ⟨_, rfl, Or.inl ⟨rfl, predRun_value (v := .bool true) (by simp only [putE, e15, e22]; first | rfl | (go_simp; done) | (go_simp; with_reducible rfl) | (go_simp; rfl)) rfl⟩⟩
      · intro γ w9 hS h
        have h23 : γ 23 = .bool true := h.2.2.2.2.2.2.2.2.2.2.2.2.2.2.2.2.2.2.2.2.2.2.2
        have HB := Kp.mk hS.2.2.2.2.2.2
        simp only [putE, Act.put, List.setIfInBounds_toArray, List.set_cons_zero, List.set_cons_succ]
        rw [h23]
        clear h hS h23 E1 E2 E3 E4 E5 E6 E7
        refine wpOps_step rfl rfl ?_
        refine wp_assign_end rfl rfl ?_
        refine wpOps_done ?_
        go_wp2_with fail
        go_ret
        exact ⟨rfl, by rw [← HA.out]; exact HB.out⟩
theorem otsSigns_walk (x0 : List Int) (x1_0 x1_1 : Int) (x2 : List Int) (w : World) (l0 : x0.length = 32) (b0 : Bytes x0) (_w1_0 : (Lit.int .i64 x1_0).wf = true) (w1_1 : (Lit.int .u32 x1_1).wf = true) (l2 : x2.length = 16) (b2 : Bytes x2) (hk : KonIs w) :
    Calls Tryd.prog 4 #[.agg (kv .u8 x0).toArray, .agg #[.int .i64 x1_0, .int .u32 x1_1], .agg (kv .u8 x2).toArray] w fun e w' => e = .returned (.bool true) ∧ Below w.heap.size w w' :=
  signs_core x0 x1_0 x1_1 x2 w hk l0 b0 (by have hb1 : IntKind.u32.min = 0 := rfl; have hb2 : IntKind.u32.max = 4294967295 := rfl; simp [Lit.wf, hb1, hb2] at w1_1; omega) l2 b2
end Go.Proofs.YtpljjmdkagbjpaaDoor
