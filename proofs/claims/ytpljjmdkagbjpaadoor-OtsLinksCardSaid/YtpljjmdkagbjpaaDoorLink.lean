/-
  ots.Link; the document's Text of layer 10.
-/
import Derived.Test.YtpljjmdkagbjpaaDoorHead
import Derived.Test.YtpljjmdkagbjpaaDoorFlowP
namespace Go.Proofs.YtpljjmdkagbjpaaDoor
open Go.RowKit

theorem holdsP_three {w : World} {v1 v2 v3 : Value} {l1 l2 l3 : List Int} (h1 : HoldsB w w.heap.size v1 l1) (h2 : HoldsB w w.heap.size v2 l2) (h3 : HoldsB w w.heap.size v3 l3) :
    HoldsP (w.alloc (.cells #[v1, v2, v3] 32)) (.slice (some ⟨w.heap.size, 0, none⟩) 3 3) [l1, l2, l3] := by
  have hB := Blk.new w (.cells #[v1, v2, v3] 32)
  have hm : ∀ v l, HoldsB w w.heap.size v l → HoldsB (w.alloc (.cells #[v1, v2, v3] 32)) (w.alloc (.cells #[v1, v2, v3] 32)).heap.size v l := fun v l h => (h.alloc _).mono (by simp)
  refine ⟨_, 3, rfl, by unfold maxLen; simp, fun i hi => ?_⟩
  match i, hi with
  | 0, _ =>
    obtain ⟨a, n, c, rfl, _⟩ := h1.slice
    exact ⟨w.heap.size, 0, a, n, c, rfl, by simp, hB.cell 0, hm _ _ h1⟩
  | 1, _ =>
    obtain ⟨a, n, c, rfl, _⟩ := h2.slice
    exact ⟨w.heap.size, 0, a, n, c, rfl, by simp, hB.cell 1, hm _ _ h2⟩
  | 2, _ =>
    obtain ⟨a, n, c, rfl, _⟩ := h3.slice
    exact ⟨w.heap.size, 0, a, n, c, rfl, by simp, hB.cell 2, hm _ _ h3⟩
  | i + 3, hi => exact absurd hi (by simp)
theorem hold16 {w : World} {b : Nat} {t : TypeId} {l : List Int} (h : Row w b t .u8 l) (hl : l.length = 16) (hb : Bytes l) : HoldsB w w.heap.size (.slice (some ⟨b, 0, none⟩) 16 16) l := by
  have h2 := HoldsB.ofBytes h hb (by rw [hl]; decide)
  rw [hl] at h2
  exact h2
theorem two_holds (w : World) (x y : Int) (hx : 0 ≤ x ∧ x ≤ 255) (hy : 0 ≤ y ∧ y ≤ 255) : HoldsB (w.alloc (.cells #[.int .u8 x, .int .u8 y] 5)) (w.alloc (.cells #[.int .u8 x, .int .u8 y] 5)).heap.size (.slice (some ⟨w.heap.size, 0, none⟩) 2 2) [x, y] := by
  have hr : Row (w.alloc (.cells #[.int .u8 x, .int .u8 y] 5)) w.heap.size 5 .u8 [x, y] := Blk.new w (.cells #[.int .u8 x, .int .u8 y] 5)
  exact HoldsB.ofBytes hr (by intro v hv; simp only [List.mem_cons, List.not_mem_nil, or_false] at hv; rcases hv with rfl | rfl <;> assumption) (by unfold maxLen; simp)
/-- What is summed for the next link. -/
def linkT (d x c s : Int) (z : List Int) : List Int := 87 :: (headL d x ++ ([c % 256, s % 256] ++ z))
theorem linkT_flat (d x c s : Int) (z : List Int) : 87 :: [headL d x, [c % 256, s % 256], z].flatten = linkT d x c s z := by simp [linkT]
theorem cellsN29 (d x : Int) : (Tryd.prog.info? 29).map (·.size) = some (#[Value.int .i64 d, .int .u32 x]).size := by kernel_rfl
theorem cellsN24 (d x : Int) : (Tryd.prog.info? 24).map (·.size) = some (#[Value.int .i64 d, .int .u32 x]).size := by kernel_rfl
set_option maxRecDepth 100000 in
theorem slice25_all16 (b : Nat) (w : World) : (Instr.sliceAt 25 (.pointer (some ⟨b, 0, none⟩)) none none none).run Tryd.prog w = .ok (.slice (some ⟨b, 0, none⟩) 16 16) w := by
  have hl : Tryd.prog.arrayLen 25 = 16 := by kernel_rfl
  have he : Tryd.prog.elem 25 = 5 := by kernel_rfl
  rw [run_sliceAt_array_all (ht := Tryd.underlying25), hl, he, size5]
  rfl

set_option maxRecDepth 100000 in
set_option maxHeartbeats 2000000 in
theorem link_any (d x c s : Int) (z : List Int) (w : World) (hk : KonIs w) (hx : 0 ≤ x ∧ x < 4294967296) (hz : z.length = 16) (hzb : Bytes z) :
    Calls Tryd.prog 9 #[nameV d x, .int .i64 c, .int .i64 s, dgV z] w fun q w' => q = .returned (dgV (shortL (linkT d x c s z))) ∧ Below w.heap.size w w' := by
  have HK := Kp.mk hk
  obtain ⟨q0, hq⟩ : ∃ q, q = shortL (linkT d x c s z) := ⟨_, rfl⟩
  rw [← hq]
  have HQ : Kp (shortL (linkT d x c s z) = q0) := ⟨hq.symm⟩
  have HQl : Kp (q0.length = 16) := ⟨by rw [hq]; exact shortL_len _⟩
  clear hk hq
  have HX := Kp.mk hx
  have HZ := Kp.mk hz
  have HZB := Kp.mk hzb
  clear hx hz hzb
  go_enter Tryd.func9, Tryd.ntmps9
  go_wp2_with fail
  obtain ⟨A, hA⟩ : ∃ A, A = w.heap.size := ⟨_, rfl⟩
  have HA := Kp.mk hA
  rw [← hA]
  refine wp_world (fun W => Blk W A (.cells #[.int .i64 d, .int .u32 x] 29) ∧ Row W (A + 1) 27 .u8 z ∧ Row W (A + 2) 27 .u8 (fill 16 []) ∧ Below A w W) ⟨?_, ?_, ?_, ?_⟩ ?_
  · exact Blk.old (Blk.old (Blk.newAt _ hA) _) _
  · exact Blk.old (Blk.newAt _ (by simp [hA])) _
  · exact Blk.newAt _ (by simp [hA])
  · rw [hA]; exact more (more (more (Below.refl _ _) _) _) _
  rw [show A + 1 + 1 = A + 2 from rfl]
  clear hA
  rintro W ⟨h1, h2, h3, h4⟩
  have G1 := Kp.mk h1
  have G2 := Kp.mk h2
  have G3 := Kp.mk h3
  have G4 := Kp.mk h4
  clear h1 h2 h3 h4
  refine wp_region_pred (fun w' => Blk w' A (.cells #[.int .i64 d, .int .u32 x] 29) ∧ Row w' (A + 1) 27 .u8 z ∧ Row w' (A + 2) 27 .u8 (fill 16 []) ∧ Below A w w') [0, 1, 2, 3, 4, 5, 6, 7, 8, 9] [10]
    (fun ι w' v => match ι with
      | 0 => v = nameV d x
      | 2 => v = .int .i64 c
      | 3 => v = .int .u8 (c % 256)
      | 4 => v = .int .i64 s
      | 5 => v = .int .u8 (s % 256)
      | 7 => v = .slice (some ⟨A + 1, 0, none⟩) 16 16
      | 9 => v = dgV q0
      | 1 => HoldsB w' w'.heap.size v (headL d x)
      | 6 => HoldsB w' w'.heap.size v [c % 256, s % 256]
      | 8 => HoldsP w' v [headL d x, [c % 256, s % 256], z]
      | _ => v = .bool true)
    [[], [(0, some 9)], [], [(2, some 11)], [], [(4, some 13)], [(3, some 12), (5, some 14)], [], [(1, some 10), (6, some 15), (7, some 16)], [(1, some 10), (8, some 17)]]
    [(0, some 9), (1, some 10), (2, some 11), (3, some 12), (4, some 13), (5, some 14), (6, some 15), (7, some 16), (8, some 17), (9, some 18)]
    (by kernel_rfl) (by kernel_rfl) (by kernel_rfl) (by kernel_rfl) (by kernel_rfl) (by kernel_rfl) (by decide) (by decide) (fun w1 w2 h hb => ⟨h.1.keep hb, h.2.1.keep hb, h.2.2.1.keep hb, h.2.2.2.trans (hb.mono (Nat.le_of_lt h.1.lt))⟩) ?_ ⟨G1.out.draw, G2.out.drew, G3.out.drew, G4.out.drew⟩ ?_ ?_
  · intro ι w1 w2 v h hb
    by_cases h1 : ι = 1
    · subst h1
      exact (HoldsB.keep h hb).mono hb.size
    by_cases h6 : ι = 6
    · subst h6
      exact (HoldsB.keep h hb).mono hb.size
    by_cases h8 : ι = 8
    · subst h8
      exact HoldsP.keep h hb
    match ι, h1, h6, h8, h with
    | 0, _, _, _, h => exact h
    | 1, g, _, _, h => exact absurd rfl g
    | 2, _, _, _, h => exact h
    | 3, _, _, _, h => exact h
    | 4, _, _, _, h => exact h
    | 5, _, _, _, h => exact h
    | 6, _, g, _, h => exact absurd rfl g
    | 7, _, _, _, h => exact h
    | 8, _, _, g, h => exact absurd rfl g
    | 9, _, _, _, h => exact h
    | _ + 10, _, _, _, h => exact h
  · refine ⟨fun γ wx hS h => ?_, fun γ wx hS h => ?_, fun γ wx hS h => ?_, fun γ wx hS h => ?_, fun γ wx hS h => ?_, fun γ wx hS h => ?_, fun γ wx hS h => ?_, fun γ wx hS h => ?_, fun γ wx hS h => ?_, fun γ wx hS h => ?_, trivial⟩
    · refine ⟨_, rfl, Or.inl ⟨rfl, predRun_value (exec_load_blk 29 (.tmp 4) rfl (A) rfl 29 _ (0, 0) _ hS.1 Tryd.underlying29 rfl (cellsN29 d x)) rfl⟩⟩
    · have h0 := h
      have e0 : γ 0 = nameV d x := h0
      refine ⟨_, rfl, Or.inl ⟨rfl, predRun_call (f := 43) (args := #[nameV d x]) (by simp only [putE, e0]; go_simp) ?_⟩⟩
      exact (named_any d x wx HX.out).mono fun e w2 ⟨v', h1, h2, h3⟩ => ⟨_, h1, h2, h3⟩
    · refine ⟨_, rfl, Or.inl ⟨rfl, predRun_value (v := .int .i64 c) (by simp only [putE]; first | rfl | (go_simp; done) | (go_simp; with_reducible rfl) | (go_simp; rfl)) rfl⟩⟩
    · have h2 := h
      have e2 : γ 2 = .int .i64 c := h2
      refine ⟨_, rfl, Or.inl ⟨rfl, predRun_value (v := .int .u8 (c % 256)) (by simp only [putE, e2]; go_simp; exact IntKind.wrap_u8' _) rfl⟩⟩
    · refine ⟨_, rfl, Or.inl ⟨rfl, predRun_value (v := .int .i64 s) (by simp only [putE]; first | rfl | (go_simp; done) | (go_simp; with_reducible rfl) | (go_simp; rfl)) rfl⟩⟩
    · have h4 := h
      have e4 : γ 4 = .int .i64 s := h4
      refine ⟨_, rfl, Or.inl ⟨rfl, predRun_value (v := .int .u8 (s % 256)) (by simp only [putE, e4]; go_simp; exact IntKind.wrap_u8' _) rfl⟩⟩
    · obtain ⟨h3, h5⟩ := h
      have e3 : γ 3 = .int .u8 (c % 256) := h3
      have e5 : γ 5 = .int .u8 (s % 256) := h5
      refine ⟨_, rfl, Or.inl ⟨rfl, predRun_new (w' := wx.alloc (.cells #[.int .u8 (c % 256), .int .u8 (s % 256)] 5)) (v := .slice (some ⟨wx.heap.size, 0, none⟩) 2 2) (by simp only [putE, e3, e5]; go_simp) (more (Below.refl _ _) _) (two_holds wx _ _ (by omega) (by omega))⟩⟩
    · refine ⟨_, rfl, Or.inl ⟨rfl, predRun_value (v := .slice (some ⟨A + 1, 0, none⟩) 16 16) (by simp only [putE]; have hs := slice50_all; go_simp) rfl⟩⟩
    · obtain ⟨h1, h6, h7⟩ := h
      have p1 : HoldsB wx wx.heap.size (γ 1) (headL d x) := h1
      have p6 : HoldsB wx wx.heap.size (γ 6) [c % 256, s % 256] := h6
      have e7 : γ 7 = .slice (some ⟨A + 1, 0, none⟩) 16 16 := h7
      obtain ⟨a, n, c1, ea, _⟩ := p1.slice
      rw [ea] at p1
      obtain ⟨a6, n6, c6, e6, _⟩ := p6.slice
      rw [e6] at p6
      refine ⟨_, rfl, Or.inl ⟨rfl, predRun_new (w' := wx.alloc (.cells #[.slice a n c1, .slice a6 n6 c6, .slice (some ⟨A + 1, 0, none⟩) 16 16] 32)) (v := .slice (some ⟨wx.heap.size, 0, none⟩) 3 3) (by simp only [putE, ea, e6, e7]; go_simp) (more (Below.refl _ _) _) (holdsP_three p1 p6 (hold16 hS.2.1 HZ.out HZB.out))⟩⟩
    · obtain ⟨h1, h8⟩ := h
      have p1 : HoldsB wx wx.heap.size (γ 1) (headL d x) := h1
      have p8 : HoldsP wx (γ 8) [headL d x, [c % 256, s % 256], z] := h8
      obtain ⟨a, n, c1, e8, _⟩ := p8.slice
      rw [e8] at p8
      refine ⟨_, rfl, Or.inl ⟨rfl, predRun_call (f := 42) (args := #[.int .u8 87, .slice a n c1]) (by simp only [putE, e8]; go_simp) ?_⟩⟩
      refine (short_any 87 a n c1 _ wx (HK.out.keep (by rw [← HA.out]; exact hS.2.2.2)) (by omega) p8 (by simp [headL_len, HZ.out])).mono ?_
      rintro q w2 ⟨rfl, hb⟩
      exact ⟨_, rfl, (congrArg (fun t => dgV (shortL t)) (linkT_flat d x c s z)).trans (by rw [HQ.out]), hb⟩
  · intro γ w9 hS h
    have h9 : γ 9 = dgV q0 := h.2.2.2.2.2.2.2.2.2
    have HC := Kp.mk (cells50 HQl.out)
    have HZ9 := Kp.mk (size50 HQl.out)
    have HF := Kp.mk (hS.2.2.1.setRow q0)
    have HBf := Kp.mk (Below.row hS.2.2.2 (g := A + 2) (by omega) (kv .u8 q0).toArray)
    simp only [putE, Act.put, List.setIfInBounds_toArray, List.set_cons_zero, List.set_cons_succ]
    rw [h9]
    refine wpOps_step rfl rfl ?_
    refine wp_store_row 27 (.tmp 8) (.tmp 18) rfl (A + 2) (kv .u8 q0).toArray rfl rfl 27 _ hS.2.2.1 HC.out HZ9.out (kv_all _ _) ?_
    refine wpOps_done ?_
    clear h hS h9 G1 G2 G3 G4
    go_wp2_with fail
    refine bodyPost_ret (v := dgV q0) ?_ rfl ⟨rfl, by rw [← HA.out]; exact HBf.out⟩
    exact results_cell_row rfl _ _ (A + 2) 27 _ (0, 0) _ rfl HF.out Tryd.underlying27 rfl HC.out
set_option maxRecDepth 100000 in
set_option maxHeartbeats 2000000 in
theorem rlink_any (d x c s : Int) (z : List Int) (w : World) (hx : 0 ≤ x ∧ x < 4294967296) (hz : z.length = 16) (hzb : Bytes z) :
    Calls Tryd.prog 12 #[nameV d x, .int .i64 c, .int .i64 s, dgV z] w fun q w' => ∃ v', q = .returned v' ∧ HoldsB w' w'.heap.size v' (linkT d x c s z) ∧ Below w.heap.size w w' := by
  have HX := Kp.mk hx
  have HZ := Kp.mk hz
  have HZB := Kp.mk hzb
  clear hx hz hzb
  go_enter Tryd.func12, Tryd.ntmps12
  go_wp2_with fail
  obtain ⟨A, hA⟩ : ∃ A, A = w.heap.size := ⟨_, rfl⟩
  have HA := Kp.mk hA
  rw [← hA]
  refine wp_world (fun W => Blk W A (.cells #[.int .i64 d, .int .u32 x] 24) ∧ Row W (A + 1) 25 .u8 z ∧ Below A w W) ⟨?_, ?_, ?_⟩ ?_
  · exact Blk.old (Blk.newAt _ hA) _
  · exact Blk.newAt _ (by simp [hA])
  · rw [hA]; exact more (more (Below.refl _ _) _) _
  clear hA
  rintro W ⟨h1, h2, h4⟩
  have G1 := Kp.mk h1
  have G2 := Kp.mk h2
  have G4 := Kp.mk h4
  clear h1 h2 h4
  refine wp_region_pred (fun w' => Blk w' A (.cells #[.int .i64 d, .int .u32 x] 24) ∧ Row w' (A + 1) 25 .u8 z ∧ Below A w w') [0, 1, 2, 3, 4, 5, 6, 7, 8, 9] [10]
    (fun ι w' v => match ι with
      | 0 => v = nameV d x
      | 2 => v = .int .i64 c
      | 3 => v = .int .u8 (c % 256)
      | 4 => v = .int .i64 s
      | 5 => v = .int .u8 (s % 256)
      | 7 => v = .slice (some ⟨A + 1, 0, none⟩) 16 16
      | 1 => HoldsB w' w'.heap.size v (headL d x)
      | 6 => HoldsB w' w'.heap.size v [c % 256, s % 256]
      | 8 => HoldsP w' v [headL d x, [c % 256, s % 256], z]
      | 9 => HoldsB w' w'.heap.size v (linkT d x c s z)
      | _ => v = .bool true)
    [[], [(0, some 9)], [], [(2, some 11)], [], [(4, some 13)], [(3, some 12), (5, some 14)], [], [(1, some 10), (6, some 15), (7, some 16)], [(1, some 10), (8, some 17)]]
    [(0, some 9), (1, some 10), (2, some 11), (3, some 12), (4, some 13), (5, some 14), (6, some 15), (7, some 16), (8, some 17), (9, some 18)]
    (by kernel_rfl) (by kernel_rfl) (by kernel_rfl) (by kernel_rfl) (by kernel_rfl) (by kernel_rfl) (by decide) (by decide) (fun w1 w2 h hb => ⟨h.1.keep hb, h.2.1.keep hb, h.2.2.trans (hb.mono (Nat.le_of_lt h.1.lt))⟩) ?_ ⟨G1.out.draw, G2.out.drew, G4.out.drew⟩ ?_ ?_
  · intro ι w1 w2 v h hb
    by_cases h1 : ι = 1
    · subst h1
      exact (HoldsB.keep h hb).mono hb.size
    by_cases h6 : ι = 6
    · subst h6
      exact (HoldsB.keep h hb).mono hb.size
    by_cases h8 : ι = 8
    · subst h8
      exact HoldsP.keep h hb
    by_cases h9 : ι = 9
    · subst h9
      exact (HoldsB.keep h hb).mono hb.size
    match ι, h1, h6, h8, h9, h with
    | 0, _, _, _, _, h => exact h
    | 1, g, _, _, _, h => exact absurd rfl g
    | 2, _, _, _, _, h => exact h
    | 3, _, _, _, _, h => exact h
    | 4, _, _, _, _, h => exact h
    | 5, _, _, _, _, h => exact h
    | 6, _, g, _, _, h => exact absurd rfl g
    | 7, _, _, _, _, h => exact h
    | 8, _, _, g, _, h => exact absurd rfl g
    | 9, _, _, _, g, h => exact absurd rfl g
    | _ + 10, _, _, _, _, h => exact h
  · refine ⟨fun γ wx hS h => ?_, fun γ wx hS h => ?_, fun γ wx hS h => ?_, fun γ wx hS h => ?_, fun γ wx hS h => ?_, fun γ wx hS h => ?_, fun γ wx hS h => ?_, fun γ wx hS h => ?_, fun γ wx hS h => ?_, fun γ wx hS h => ?_, trivial⟩
    · refine ⟨_, rfl, Or.inl ⟨rfl, predRun_value (exec_load_blk 24 (.tmp 4) rfl (A) rfl 24 _ (0, 0) _ hS.1 Tryd.underlying24 rfl (cellsN24 d x)) rfl⟩⟩
    · have h0 := h
      have e0 : γ 0 = nameV d x := h0
      refine ⟨_, rfl, Or.inl ⟨rfl, predRun_call (f := 46) (args := #[nameV d x]) (by simp only [putE, e0]; go_simp) ?_⟩⟩
      exact (head_any d x wx HX.out).mono fun e w2 ⟨v', h1, h2, h3⟩ => ⟨_, h1, h2, h3⟩
    · refine ⟨_, rfl, Or.inl ⟨rfl, predRun_value (v := .int .i64 c) (by simp only [putE]; first | rfl | (go_simp; done) | (go_simp; with_reducible rfl) | (go_simp; rfl)) rfl⟩⟩
    · have h2 := h
      have e2 : γ 2 = .int .i64 c := h2
      refine ⟨_, rfl, Or.inl ⟨rfl, predRun_value (v := .int .u8 (c % 256)) (by simp only [putE, e2]; go_simp; exact IntKind.wrap_u8' _) rfl⟩⟩
    · refine ⟨_, rfl, Or.inl ⟨rfl, predRun_value (v := .int .i64 s) (by simp only [putE]; first | rfl | (go_simp; done) | (go_simp; with_reducible rfl) | (go_simp; rfl)) rfl⟩⟩
    · have h4 := h
      have e4 : γ 4 = .int .i64 s := h4
      refine ⟨_, rfl, Or.inl ⟨rfl, predRun_value (v := .int .u8 (s % 256)) (by simp only [putE, e4]; go_simp; exact IntKind.wrap_u8' _) rfl⟩⟩
    · obtain ⟨h3, h5⟩ := h
      have e3 : γ 3 = .int .u8 (c % 256) := h3
      have e5 : γ 5 = .int .u8 (s % 256) := h5
      refine ⟨_, rfl, Or.inl ⟨rfl, predRun_new (w' := wx.alloc (.cells #[.int .u8 (c % 256), .int .u8 (s % 256)] 5)) (v := .slice (some ⟨wx.heap.size, 0, none⟩) 2 2) (by simp only [putE, e3, e5]; go_simp) (more (Below.refl _ _) _) (two_holds wx _ _ (by omega) (by omega))⟩⟩
    · refine ⟨_, rfl, Or.inl ⟨rfl, predRun_value (v := .slice (some ⟨A + 1, 0, none⟩) 16 16) (by simp only [putE]; have hs := slice25_all16; go_simp) rfl⟩⟩
    · obtain ⟨h1, h6, h7⟩ := h
      have p1 : HoldsB wx wx.heap.size (γ 1) (headL d x) := h1
      have p6 : HoldsB wx wx.heap.size (γ 6) [c % 256, s % 256] := h6
      have e7 : γ 7 = .slice (some ⟨A + 1, 0, none⟩) 16 16 := h7
      obtain ⟨a, n, c1, ea, _⟩ := p1.slice
      rw [ea] at p1
      obtain ⟨a6, n6, c6, e6, _⟩ := p6.slice
      rw [e6] at p6
      refine ⟨_, rfl, Or.inl ⟨rfl, predRun_new (w' := wx.alloc (.cells #[.slice a n c1, .slice a6 n6 c6, .slice (some ⟨A + 1, 0, none⟩) 16 16] 32)) (v := .slice (some ⟨wx.heap.size, 0, none⟩) 3 3) (by simp only [putE, ea, e6, e7]; go_simp) (more (Below.refl _ _) _) (holdsP_three p1 p6 (hold16 hS.2.1 HZ.out HZB.out))⟩⟩
    · obtain ⟨h1, h8⟩ := h
      have p1 : HoldsB wx wx.heap.size (γ 1) (headL d x) := h1
      have p8 : HoldsP wx (γ 8) [headL d x, [c % 256, s % 256], z] := h8
      obtain ⟨a, n, c1, e8, _⟩ := p8.slice
      rw [e8] at p8
      refine ⟨_, rfl, Or.inl ⟨rfl, predRun_call (f := 45) (args := #[.int .u8 87, .slice a n c1]) (by simp only [putE, e8]; go_simp) ?_⟩⟩
      refine (rtext_any 87 a n c1 _ wx (by omega) p8 (by simp [headL_len, HZ.out])).mono ?_
      rintro q w2 ⟨v', rfl, hh, _, hb⟩
      exact ⟨v', rfl, (linkT_flat d x c s z) ▸ hh, hb⟩
  · intro γ w9 hS h
    have h9 : HoldsB w9 w9.heap.size (γ 9) (linkT d x c s z) := h.2.2.2.2.2.2.2.2.2
    have HB := Kp.mk hS.2.2
    have H9 := Kp.mk h9
    simp only [putE, Act.put, List.setIfInBounds_toArray, List.set_cons_zero, List.set_cons_succ]
    clear h hS h9 G1 G2 G4
    generalize γ 9 = v9 at *
    refine wpOps_step rfl rfl ?_
    refine wp_assign_end rfl rfl ?_
    refine wpOps_done ?_
    go_wp2_with fail
    go_ret
    exact ⟨_, rfl, H9.out, by rw [← HA.out]; exact HB.out⟩
end Go.Proofs.YtpljjmdkagbjpaaDoor
