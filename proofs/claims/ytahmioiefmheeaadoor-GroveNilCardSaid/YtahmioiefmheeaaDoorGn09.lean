/-
  ladder.Leaf, ladder.Join.
  The document's LeafText, JoinText.
  The document's JoinText, Of.
  mac.Equal, mac.Same, mac.Pick.
  grove: nil trees; the tree over one leaf.
  grove: the tree over one leaf.
-/
import Derived.Test.YtahmioiefmheeaaDoorGn08
import Derived.Laws.BitsLemmas
import Derived.Laws.Closers25b
import Derived.Deep.MidRow
namespace Go.Proofs.YtahmioiefmheeaaDoor
open Go.RowKit

theorem holdsP_three {w : World} {v1 v2 v3 : Value} {l1 l2 l3 : List Int} (h1 : HoldsB w w.heap.size v1 l1) (h2 : HoldsB w w.heap.size v2 l2) (h3 : HoldsB w w.heap.size v3 l3) :
    HoldsP (w.alloc (.cells #[v1, v2, v3] 22)) (.slice (some ⟨w.heap.size, 0, none⟩) 3 3) [l1, l2, l3] := by
  have hB := Blk.new w (.cells #[v1, v2, v3] 22)
  have hm : ∀ v l, HoldsB w w.heap.size v l → HoldsB (w.alloc (.cells #[v1, v2, v3] 22)) (w.alloc (.cells #[v1, v2, v3] 22)).heap.size v l := fun v l h => (h.alloc _).mono (by simp)
  refine ⟨_, 3, rfl, by unfold maxLen; simp, fun i hi => ?_⟩
  match i, hi with
  | 0, _ =>
    obtain ⟨a, n, c, rfl, _⟩ := h1.slice
    exact ⟨w.heap.size, 0, a, n, c, rfl, by simp, hB.cell 0, hm _ _ h1⟩
  | 1, _ =>
    obtain ⟨a, n, c, rfl, _⟩ := h2.slice
    exact ⟨w.heap.size, 0, a, n, c, rfl, by simp, hB.cell 1, hm _ _ h2⟩
  | 2, _ =>
    obtain ⟨a, n, c, rfl, _⟩ := h3.slice
    exact ⟨w.heap.size, 0, a, n, c, rfl, by simp, hB.cell 2, hm _ _ h3⟩
  | i + 3, hi => exact absurd hi (by simp)
/-- The texts of a leaf, of what stands above two. -/
def leafT (d e s r : Int) (el : List Int) (id : Int) : List Int := 76 :: (placeL d e s r ++ el ++ [id % 256])
def joinT (d e s r : Int) (x y : List Int) : List Int := 74 :: (placeL d e s r ++ x ++ y)
theorem leafT_flat (d e s r : Int) (el : List Int) (id : Int) : 76 :: [placeL d e s r, el, [id % 256]].flatten = leafT d e s r el id := by simp [leafT]
theorem joinT_flat (d e s r : Int) (x y : List Int) : 74 :: [placeL d e s r, x, y].flatten = joinT d e s r x y := by simp [joinT]
theorem hold16 {w : World} {b : Nat} {t : TypeId} {l : List Int} (h : Row w b t .u8 l) (hl : l.length = 16) (hb : Bytes l) : HoldsB w w.heap.size (.slice (some ⟨b, 0, none⟩) 16 16) l := by
  have h2 := HoldsB.ofBytes h hb (by rw [hl]; decide)
  rw [hl] at h2
  exact h2
theorem cells51 (d e s : Int) : (Tryd.prog.info? 51).map (·.size) = some (#[Value.int .i64 d, .int .u32 e, .int .u32 s]).size := by kernel_rfl
theorem cells48 (d e s : Int) : (Tryd.prog.info? 48).map (·.size) = some (#[Value.int .i64 d, .int .u32 e, .int .u32 s]).size := by kernel_rfl
set_option maxRecDepth 100000 in
set_option maxHeartbeats 1000000 in
theorem join_any (d e s r : Int) (x y : List Int) (w : World) (hk : KonIs w) (he : 0 ≤ e ∧ e < 4294967296) (hs : 0 ≤ s ∧ s < 4294967296) (hx : x.length = 16) (hxb : Bytes x) (hy : y.length = 16) (hyb : Bytes y) :
    Calls Tryd.prog 38 #[plV d e s, .int .i64 r, dgV x, dgV y] w fun q w' => q = .returned (dgV (shortL (joinT d e s r x y))) ∧ Below w.heap.size w w' := by
  have HK := Kp.mk hk
  have HE := Kp.mk he
  have HS := Kp.mk hs
  have HX := Kp.mk hx
  have HXB := Kp.mk hxb
  have HY := Kp.mk hy
  have HYB := Kp.mk hyb
  clear hk he hs hx hxb hy hyb
  go_enter Tryd.func38, Tryd.ntmps38
  go_wp2_with fail
  obtain ⟨A, hA⟩ : ∃ A, A = w.heap.size := ⟨_, rfl⟩
  have HA := Kp.mk hA
  rw [← hA]
  refine wp_world (fun W => Blk W A (.cells #[.int .i64 d, .int .u32 e, .int .u32 s] 51) ∧ Row W (A + 1) 33 .u8 x ∧ Row W (A + 2) 33 .u8 y ∧ Row W (A + 3) 33 .u8 (fill 16 []) ∧ Below A w W) ⟨?_, ?_, ?_, ?_, ?_⟩ ?_
  · exact Blk.old (Blk.old (Blk.old (Blk.newAt _ hA) _) _) _
  · exact Blk.old (Blk.old (Blk.newAt _ (by simp [hA])) _) _
  · exact Blk.old (Blk.newAt _ (by simp [hA])) _
  · exact Blk.newAt _ (by simp [hA])
  · rw [hA]; exact more (more (more (more (Below.refl _ _) _) _) _) _
  rw [show A + 1 + 1 = A + 2 from rfl, show A + 2 + 1 = A + 3 from rfl]
  clear hA
  rintro W ⟨h1, h2, h3, h4, h5⟩
  refine wp_region_pred (fun w' => Blk w' A (.cells #[.int .i64 d, .int .u32 e, .int .u32 s] 51) ∧ Row w' (A + 1) 33 .u8 x ∧ Row w' (A + 2) 33 .u8 y ∧ Row w' (A + 3) 33 .u8 (fill 16 []) ∧ Below A w w') [0, 1, 2, 3, 4, 5, 6] [7]
    (fun i w' v => match i with
      | 0 => v = plV d e s
      | 1 => v = .int .i64 r
      | 2 => HoldsB w' w'.heap.size v (placeL d e s r)
      | 3 => v = .slice (some ⟨A + 1, 0, none⟩) 16 16
      | 4 => v = .slice (some ⟨A + 2, 0, none⟩) 16 16
      | 5 => HoldsP w' v [placeL d e s r, x, y]
      | _ => v = dgV (shortL (joinT d e s r x y)))
    [[], [], [(0, some 9), (1, some 10)], [], [], [(2, some 11), (3, some 12), (4, some 13)], [(2, some 11), (5, some 14)]] [(0, some 9), (1, some 10), (2, some 11), (3, some 12), (4, some 13), (5, some 14), (6, some 15)]
    (by kernel_rfl) (by kernel_rfl) (by kernel_rfl) (by kernel_rfl) (by kernel_rfl) (by kernel_rfl) (by decide) (by decide) (fun w1 w2 h hb => ⟨h.1.keep hb, h.2.1.keep hb, h.2.2.1.keep hb, h.2.2.2.1.keep hb, h.2.2.2.2.trans (hb.mono (Nat.le_of_lt h.1.lt))⟩) ?_ ⟨h1.draw, h2.drew, h3.drew, h4.drew, h5.drew⟩ ?_ ?_
  · intro i w1 w2 v h hb
    match i, h with
    | 0, h => exact h
    | 1, h => exact h
    | 2, h => exact (HoldsB.keep h hb).mono hb.size
    | 3, h => exact h
    | 4, h => exact h
    | 5, h => exact HoldsP.keep h hb
    | _ + 6, h => exact h
  · refine ⟨fun γ wx hS h => ⟨_, rfl, Or.inl ⟨rfl, ?_⟩⟩, fun γ wx hS h => ⟨_, rfl, Or.inl ⟨rfl, ?_⟩⟩, fun γ wx hS h => ⟨_, rfl, Or.inl ⟨rfl, ?_⟩⟩, fun γ wx hS h => ⟨_, rfl, Or.inl ⟨rfl, ?_⟩⟩, fun γ wx hS h => ⟨_, rfl, Or.inl ⟨rfl, ?_⟩⟩, fun γ wx hS h => ⟨_, rfl, Or.inl ⟨rfl, ?_⟩⟩, fun γ wx hS h => ⟨_, rfl, Or.inl ⟨rfl, ?_⟩⟩, trivial⟩
    · exact predRun_value (exec_load_blk 51 (.tmp 4) rfl A rfl 51 _ (0, 0) _ hS.1 Tryd.underlying51 rfl (cells51 d e s)) rfl
    · exact predRun_value rfl rfl
    · obtain ⟨h0, h1⟩ := h
      refine predRun_call (f := 97) (args := #[γ 0, γ 1]) (by simp only [putE]; go_simp) ?_
      rw [show γ 0 = plV d e s from h0, show γ 1 = .int .i64 r from h1]
      exact withRung_any d e s r wx HE.out HS.out
    · exact predRun_value (v := .slice (some ⟨A + 1, 0, none⟩) 16 16) (by simp only [putE]; have hs := slice50_all; go_simp) rfl
    · exact predRun_value (v := .slice (some ⟨A + 2, 0, none⟩) 16 16) (by simp only [putE]; have hs := slice50_all; go_simp) rfl
    · obtain ⟨h2, h3, h4⟩ := h
      have h3' : γ 3 = .slice (some ⟨A + 1, 0, none⟩) 16 16 := h3
      have h4' : γ 4 = .slice (some ⟨A + 2, 0, none⟩) 16 16 := h4
      have h2' : HoldsB wx wx.heap.size (γ 2) (placeL d e s r) := h2
      obtain ⟨a, n, c, e2, _⟩ := h2'.slice
      rw [e2] at h2'
      refine predRun_new (w' := wx.alloc (.cells #[.slice a n c, .slice (some ⟨A + 1, 0, none⟩) 16 16, .slice (some ⟨A + 2, 0, none⟩) 16 16] 22)) (v := .slice (some ⟨wx.heap.size, 0, none⟩) 3 3) (by simp only [putE, e2, h3', h4']; go_simp) (more (Below.refl _ _) _) ?_
      exact holdsP_three h2' (hold16 hS.2.1 HX.out HXB.out) (hold16 hS.2.2.1 HY.out HYB.out)
    · obtain ⟨_, h5⟩ := h
      have h5' : HoldsP wx (γ 5) [placeL d e s r, x, y] := h5
      obtain ⟨a, n, c, e5, _⟩ := h5'.slice
      rw [e5] at h5'
      refine predRun_call (f := 24) (args := #[.int .u8 74, γ 5]) (by simp only [putE]; go_simp) ?_
      rw [e5]
      refine (short_any 74 a n c _ wx (HK.out.keep (by rw [← HA.out]; exact hS.2.2.2.2)) (by omega) h5' (by simp [placeL_len, HX.out, HY.out])).mono ?_
      rintro q w2 ⟨rfl, hb⟩
      exact ⟨_, rfl, congrArg (fun t => dgV (shortL t)) (joinT_flat d e s r x y), hb⟩
  · intro γ w9 hS h
    have h6 : γ 6 = dgV (shortL (joinT d e s r x y)) := h.2.2.2.2.2.2
    obtain ⟨z, hz⟩ : ∃ z, z = shortL (joinT d e s r x y) := ⟨_, rfl⟩
    have HD := Kp.mk (shortL_len (joinT d e s r x y))
    rw [← hz] at h6 HD
    have HC := Kp.mk (cells50 HD.out)
    have HZ := Kp.mk (size50 HD.out)
    have HF := Kp.mk (hS.2.2.2.1.setRow z)
    have HBf := Kp.mk (Below.row hS.2.2.2.2 (g := A + 3) (by omega) (kv .u8 z).toArray)
    simp only [putE, Act.put, List.setIfInBounds_toArray, List.set_cons_zero, List.set_cons_succ]
    rw [h6]
    refine wpOps_step rfl rfl ?_
    refine wp_store_row 33 (.tmp 8) (.tmp 15) rfl (A + 3) (kv .u8 z).toArray rfl rfl 33 _ hS.2.2.2.1 HC.out HZ.out (kv_all _ _) ?_
    refine wpOps_done ?_
    have HK9 := Kp.mk hz
    clear h hS h6 hz
    go_wp2_with fail
    refine bodyPost_ret (v := dgV z) ?_ rfl ⟨by rw [HK9.out], by rw [← HA.out]; exact HBf.out⟩
    exact results_cell_row rfl _ _ (A + 3) 33 _ (0, 0) _ rfl HF.out Tryd.underlying33 rfl HC.out
end Go.Proofs.YtahmioiefmheeaaDoor

namespace Go.Proofs.YtahmioiefmheeaaDoor
open Go.RowKit

set_option maxRecDepth 100000 in
theorem slice32_all (b : Nat) (w : World) : (Instr.sliceAt 32 (.pointer (some ⟨b, 0, none⟩)) none none none).run Tryd.prog w = .ok (.slice (some ⟨b, 0, none⟩) 16 16) w := by
  have hl : Tryd.prog.arrayLen 32 = 16 := by kernel_rfl
  have he : Tryd.prog.elem 32 = 5 := by kernel_rfl
  rw [run_sliceAt_array_all (ht := Tryd.underlying32), hl, he, size5]
  rfl
theorem wp_assign_end {P : Program} {o : Oper} {a : Act} {w : World} {K : Act → World → Prop} {Q : Exit → Act → World → Prop} {x : Operand} {v : Value} (ho : o.op = .assign x) (hx : a.eval x = v) (h : K (a.put o.dst v) w) : o.wp P a w K Q := by
  unfold Oper.wp execOp
  simp only [ho, hx, Sem.run_pure]
  exact h

set_option maxRecDepth 100000 in
set_option maxHeartbeats 1000000 in
theorem rleafT_any (d e s r : Int) (x : List Int) (id : Int) (w : World) (he : 0 ≤ e ∧ e < 4294967296) (hs : 0 ≤ s ∧ s < 4294967296) (hx : x.length = 16) (hxb : Bytes x) :
    Calls Tryd.prog 37 #[plV d e s, .int .i64 r, dgV x, .int .i64 id] w fun q w' => ∃ v', q = .returned v' ∧ HoldsB w' w'.heap.size v' (leafT d e s r x id) ∧ Below w.heap.size w w' := by
  have HE := Kp.mk he
  have HS := Kp.mk hs
  have HX := Kp.mk hx
  have HXB := Kp.mk hxb
  clear he hs hx hxb
  go_enter Tryd.func37, Tryd.ntmps37
  go_wp2_with fail
  obtain ⟨A, hA⟩ : ∃ A, A = w.heap.size := ⟨_, rfl⟩
  have HA := Kp.mk hA
  rw [← hA]
  refine wp_world (fun W => Blk W A (.cells #[.int .i64 d, .int .u32 e, .int .u32 s] 48) ∧ Row W (A + 1) 32 .u8 x ∧ Below A w W) ⟨?_, ?_, ?_⟩ ?_
  · exact Blk.old (Blk.newAt _ hA) _
  · exact Blk.newAt _ (by simp [hA])
  · rw [hA]; exact more (more (Below.refl _ _) _) _
  clear hA
  rintro W ⟨h1, h2, h5⟩
  refine wp_region_pred (fun w' => Blk w' A (.cells #[.int .i64 d, .int .u32 e, .int .u32 s] 48) ∧ Row w' (A + 1) 32 .u8 x ∧ Below A w w') [0, 1, 2, 3, 4, 5, 6, 7, 8] [9]
    (fun i w' v => match i with
      | 0 => v = plV d e s
      | 1 => v = .int .i64 r
      | 2 => HoldsB w' w'.heap.size v (placeL d e s r)
      | 3 => v = .slice (some ⟨A + 1, 0, none⟩) 16 16
      | 4 => v = .int .i64 id
      | 5 => v = .int .u8 (id % 256)
      | 6 => HoldsB w' w'.heap.size v [id % 256]
      | 7 => HoldsP w' v [placeL d e s r, x, [id % 256]]
      | _ => HoldsB w' w'.heap.size v (leafT d e s r x id))
    [[], [], [(0, some 9), (1, some 10)], [], [], [(4, some 13)], [(5, some 14)], [(2, some 11), (3, some 12), (6, some 15)], [(2, some 11), (7, some 16)]] [(0, some 9), (1, some 10), (2, some 11), (3, some 12), (4, some 13), (5, some 14), (6, some 15), (7, some 16), (8, some 17)]
    (by kernel_rfl) (by kernel_rfl) (by kernel_rfl) (by kernel_rfl) (by kernel_rfl) (by kernel_rfl) (by decide) (by decide) (fun w1 w2 h hb => ⟨h.1.keep hb, h.2.1.keep hb, h.2.2.trans (hb.mono (Nat.le_of_lt h.1.lt))⟩) ?_ ⟨h1.draw, h2.drew, h5.drew⟩ ?_ ?_
  · intro i w1 w2 v h hb
    match i, h with
    | 0, h => exact h
    | 1, h => exact h
    | 2, h => exact (HoldsB.keep h hb).mono hb.size
    | 3, h => exact h
    | 4, h => exact h
    | 5, h => exact h
    | 6, h => exact (HoldsB.keep h hb).mono hb.size
    | 7, h => exact HoldsP.keep h hb
    | _ + 8, h => exact (HoldsB.keep h hb).mono hb.size
  · refine ⟨fun γ wx hS h => ⟨_, rfl, Or.inl ⟨rfl, ?_⟩⟩, fun γ wx hS h => ⟨_, rfl, Or.inl ⟨rfl, ?_⟩⟩, fun γ wx hS h => ⟨_, rfl, Or.inl ⟨rfl, ?_⟩⟩, fun γ wx hS h => ⟨_, rfl, Or.inl ⟨rfl, ?_⟩⟩, fun γ wx hS h => ⟨_, rfl, Or.inl ⟨rfl, ?_⟩⟩, fun γ wx hS h => ⟨_, rfl, Or.inl ⟨rfl, ?_⟩⟩, fun γ wx hS h => ⟨_, rfl, Or.inl ⟨rfl, ?_⟩⟩, fun γ wx hS h => ⟨_, rfl, Or.inl ⟨rfl, ?_⟩⟩, fun γ wx hS h => ⟨_, rfl, Or.inl ⟨rfl, ?_⟩⟩, trivial⟩
    · exact predRun_value (exec_load_blk 48 (.tmp 4) rfl A rfl 48 _ (0, 0) _ hS.1 Tryd.underlying48 rfl (cells48 d e s)) rfl
    · exact predRun_value rfl rfl
    · obtain ⟨h0, h1⟩ := h
      refine predRun_call (f := 98) (args := #[γ 0, γ 1]) (by simp only [putE]; go_simp) ?_
      rw [show γ 0 = plV d e s from h0, show γ 1 = .int .i64 r from h1]
      exact rplace_any d e s r wx HE.out HS.out
    · exact predRun_value (v := .slice (some ⟨A + 1, 0, none⟩) 16 16) (by simp only [putE]; have hs := slice32_all; go_simp) rfl
    · exact predRun_value rfl rfl
    · have h4' : γ 4 = .int .i64 id := h
      exact predRun_value (v := .int .u8 (id % 256)) (by simp only [putE, h4']; go_simp; exact IntKind.wrap_u8' _) rfl
    · have h5' : γ 5 = .int .u8 (id % 256) := h
      exact predRun_new (w' := wx.alloc (.cells #[.int .u8 (id % 256)] 5)) (v := .slice (some ⟨wx.heap.size, 0, none⟩) 1 1) (by simp only [putE, h5']; go_simp) (more (Below.refl _ _) _) (one_holds wx _ (by omega))
    · obtain ⟨h2, h3, h6⟩ := h
      have h3' : γ 3 = .slice (some ⟨A + 1, 0, none⟩) 16 16 := h3
      have h2' : HoldsB wx wx.heap.size (γ 2) (placeL d e s r) := h2
      have h6' : HoldsB wx wx.heap.size (γ 6) [id % 256] := h6
      obtain ⟨a, n, c, e2, _⟩ := h2'.slice
      rw [e2] at h2'
      obtain ⟨a6, n6, c6, e6, _⟩ := h6'.slice
      rw [e6] at h6'
      refine predRun_new (w' := wx.alloc (.cells #[.slice a n c, .slice (some ⟨A + 1, 0, none⟩) 16 16, .slice a6 n6 c6] 22)) (v := .slice (some ⟨wx.heap.size, 0, none⟩) 3 3) (by simp only [putE, e2, h3', e6]; go_simp) (more (Below.refl _ _) _) ?_
      exact holdsP_three h2' (hold16 hS.2.1 HX.out HXB.out) h6'
    · obtain ⟨_, h7⟩ := h
      have h7' : HoldsP wx (γ 7) [placeL d e s r, x, [id % 256]] := h7
      obtain ⟨a, n, c, e7, _⟩ := h7'.slice
      rw [e7] at h7'
      refine predRun_call (f := 90) (args := #[.int .u8 76, γ 7]) (by simp only [putE]; go_simp) ?_
      rw [e7]
      refine (rtext_any 76 a n c _ wx (by omega) h7' (by simp [placeL_len, HX.out])).mono ?_
      rintro q w2 ⟨v', rfl, hh, _, hb⟩
      exact ⟨v', rfl, (leafT_flat d e s r x id) ▸ hh, hb⟩
  · intro γ w9 hS h
    have h8 : HoldsB w9 w9.heap.size (γ 8) (leafT d e s r x id) := h.2.2.2.2.2.2.2.2
    have HB := Kp.mk hS.2.2
    have H8 := Kp.mk h8
    simp only [putE, Act.put, List.setIfInBounds_toArray, List.set_cons_zero, List.set_cons_succ]
    clear h hS h8
    generalize γ 8 = v8 at *
    refine wpOps_step rfl rfl ?_
    refine wp_assign_end rfl rfl ?_
    refine wpOps_done ?_
    go_wp2_with fail
    go_ret
    exact ⟨_, rfl, H8.out, by rw [← HA.out]; exact HB.out⟩
end Go.Proofs.YtahmioiefmheeaaDoor

namespace Go.Proofs.YtahmioiefmheeaaDoor
open Go.RowKit

set_option maxRecDepth 100000 in
set_option maxHeartbeats 1000000 in
theorem rjoinT_any (d e s r : Int) (x y : List Int) (w : World) (he : 0 ≤ e ∧ e < 4294967296) (hs : 0 ≤ s ∧ s < 4294967296) (hx : x.length = 16) (hxb : Bytes x) (hy : y.length = 16) (hyb : Bytes y) :
    Calls Tryd.prog 39 #[plV d e s, .int .i64 r, dgV x, dgV y] w fun q w' => ∃ v', q = .returned v' ∧ HoldsB w' w'.heap.size v' (joinT d e s r x y) ∧ Below w.heap.size w w' := by
  have HE := Kp.mk he
  have HS := Kp.mk hs
  have HX := Kp.mk hx
  have HXB := Kp.mk hxb
  have HY := Kp.mk hy
  have HYB := Kp.mk hyb
  clear he hs hx hxb hy hyb
  go_enter Tryd.func39, Tryd.ntmps39
  go_wp2_with fail
  obtain ⟨A, hA⟩ : ∃ A, A = w.heap.size := ⟨_, rfl⟩
  have HA := Kp.mk hA
  rw [← hA]
  refine wp_world (fun W => Blk W A (.cells #[.int .i64 d, .int .u32 e, .int .u32 s] 48) ∧ Row W (A + 1) 32 .u8 x ∧ Row W (A + 2) 32 .u8 y ∧ Below A w W) ⟨?_, ?_, ?_, ?_⟩ ?_
  · exact Blk.old (Blk.old (Blk.newAt _ hA) _) _
  · exact Blk.old (Blk.newAt _ (by simp [hA])) _
  · exact Blk.newAt _ (by simp [hA])
  · rw [hA]; exact more (more (more (Below.refl _ _) _) _) _
  rw [show A + 1 + 1 = A + 2 from rfl]
  clear hA
  rintro W ⟨h1, h2, h3, h5⟩
  refine wp_region_pred (fun w' => Blk w' A (.cells #[.int .i64 d, .int .u32 e, .int .u32 s] 48) ∧ Row w' (A + 1) 32 .u8 x ∧ Row w' (A + 2) 32 .u8 y ∧ Below A w w') [0, 1, 2, 3, 4, 5, 6] [7]
    (fun i w' v => match i with
      | 0 => v = plV d e s
      | 1 => v = .int .i64 r
      | 2 => HoldsB w' w'.heap.size v (placeL d e s r)
      | 3 => v = .slice (some ⟨A + 1, 0, none⟩) 16 16
      | 4 => v = .slice (some ⟨A + 2, 0, none⟩) 16 16
      | 5 => HoldsP w' v [placeL d e s r, x, y]
      | _ => HoldsB w' w'.heap.size v (joinT d e s r x y))
    [[], [], [(0, some 9), (1, some 10)], [], [], [(2, some 11), (3, some 12), (4, some 13)], [(2, some 11), (5, some 14)]] [(0, some 9), (1, some 10), (2, some 11), (3, some 12), (4, some 13), (5, some 14), (6, some 15)]
    (by kernel_rfl) (by kernel_rfl) (by kernel_rfl) (by kernel_rfl) (by kernel_rfl) (by kernel_rfl) (by decide) (by decide) (fun w1 w2 h hb => ⟨h.1.keep hb, h.2.1.keep hb, h.2.2.1.keep hb, h.2.2.2.trans (hb.mono (Nat.le_of_lt h.1.lt))⟩) ?_ ⟨h1.draw, h2.drew, h3.drew, h5.drew⟩ ?_ ?_
  · intro i w1 w2 v h hb
    match i, h with
    | 0, h => exact h
    | 1, h => exact h
    | 2, h => exact (HoldsB.keep h hb).mono hb.size
    | 3, h => exact h
    | 4, h => exact h
    | 5, h => exact HoldsP.keep h hb
    | _ + 6, h => exact (HoldsB.keep h hb).mono hb.size
  · refine ⟨fun γ wx hS h => ⟨_, rfl, Or.inl ⟨rfl, ?_⟩⟩, fun γ wx hS h => ⟨_, rfl, Or.inl ⟨rfl, ?_⟩⟩, fun γ wx hS h => ⟨_, rfl, Or.inl ⟨rfl, ?_⟩⟩, fun γ wx hS h => ⟨_, rfl, Or.inl ⟨rfl, ?_⟩⟩, fun γ wx hS h => ⟨_, rfl, Or.inl ⟨rfl, ?_⟩⟩, fun γ wx hS h => ⟨_, rfl, Or.inl ⟨rfl, ?_⟩⟩, fun γ wx hS h => ⟨_, rfl, Or.inl ⟨rfl, ?_⟩⟩, trivial⟩
    · exact predRun_value (exec_load_blk 48 (.tmp 4) rfl A rfl 48 _ (0, 0) _ hS.1 Tryd.underlying48 rfl (cells48 d e s)) rfl
    · exact predRun_value rfl rfl
    · obtain ⟨h0, h1⟩ := h
      refine predRun_call (f := 98) (args := #[γ 0, γ 1]) (by simp only [putE]; go_simp) ?_
      rw [show γ 0 = plV d e s from h0, show γ 1 = .int .i64 r from h1]
      exact rplace_any d e s r wx HE.out HS.out
    · exact predRun_value (v := .slice (some ⟨A + 1, 0, none⟩) 16 16) (by simp only [putE]; have hs := slice32_all; go_simp) rfl
    · exact predRun_value (v := .slice (some ⟨A + 2, 0, none⟩) 16 16) (by simp only [putE]; have hs := slice32_all; go_simp) rfl
    · obtain ⟨h2, h3, h4⟩ := h
      have h3' : γ 3 = .slice (some ⟨A + 1, 0, none⟩) 16 16 := h3
      have h4' : γ 4 = .slice (some ⟨A + 2, 0, none⟩) 16 16 := h4
      have h2' : HoldsB wx wx.heap.size (γ 2) (placeL d e s r) := h2
      obtain ⟨a, n, c, e2, _⟩ := h2'.slice
      rw [e2] at h2'
      refine predRun_new (w' := wx.alloc (.cells #[.slice a n c, .slice (some ⟨A + 1, 0, none⟩) 16 16, .slice (some ⟨A + 2, 0, none⟩) 16 16] 22)) (v := .slice (some ⟨wx.heap.size, 0, none⟩) 3 3) (by simp only [putE, e2, h3', h4']; go_simp) (more (Below.refl _ _) _) ?_
      exact holdsP_three h2' (hold16 hS.2.1 HX.out HXB.out) (hold16 hS.2.2.1 HY.out HYB.out)
    · obtain ⟨_, h5⟩ := h
      have h5' : HoldsP wx (γ 5) [placeL d e s r, x, y] := h5
      obtain ⟨a, n, c, e5, _⟩ := h5'.slice
      rw [e5] at h5'
      refine predRun_call (f := 90) (args := #[.int .u8 74, γ 5]) (by simp only [putE]; go_simp) ?_
      rw [e5]
      refine (rtext_any 74 a n c _ wx (by omega) h5' (by simp [placeL_len, HX.out, HY.out])).mono ?_
      rintro q w2 ⟨v', rfl, hh, _, hb⟩
      exact ⟨v', rfl, (joinT_flat d e s r x y) ▸ hh, hb⟩
  · intro γ w9 hS h
    have h6 : HoldsB w9 w9.heap.size (γ 6) (joinT d e s r x y) := h.2.2.2.2.2.2
    have HB := Kp.mk hS.2.2.2
    have H6 := Kp.mk h6
    simp only [putE, Act.put, List.setIfInBounds_toArray, List.set_cons_zero, List.set_cons_succ]
    clear h hS h6
    generalize γ 6 = v6 at *
    refine wpOps_step rfl rfl ?_
    refine wp_assign_end rfl rfl ?_
    refine wpOps_done ?_
    go_wp2_with fail
    go_ret
    exact ⟨_, rfl, H6.out, by rw [← HA.out]; exact HB.out⟩
theorem holdsB_tail {w : World} {M : Nat} {v : Value} {k : Int} {l : List Int} (h : HoldsB w M v (k :: l)) :
    ∃ v', (∀ w1, (Instr.sliceAt 22 v (some (.int .i64 1)) none none).run Tryd.prog w1 = .ok v' w1) ∧ HoldsB w M v' l := by
  obtain ⟨v', h1, h2⟩ := h.back (k := 1) (by simp)
  exact ⟨v', h1, h2⟩
set_option maxRecDepth 100000 in
set_option maxHeartbeats 1000000 in
theorem of_any (M : Nat) (v : Value) (k : Int) (l : List Int) (w : World) (h : HoldsB w M v (k :: l)) (hlen : l.length ≤ 1000000) :
    Calls Tryd.prog 36 #[v] w fun q w' => q = .returned (dgV (shortL (k :: l))) ∧ Below w.heap.size w w' := by
  obtain ⟨vt, ht, hT⟩ := holdsB_tail h
  obtain ⟨a, len, cap, rfl, hlen0⟩ := h.slice
  obtain ⟨b, off, rfl, -, hc⟩ := h.cellAt (i := 0) (by simp)
  have hk8 : 0 ≤ k ∧ k ≤ 255 := h.bytes k (by simp)
  have hbw : b < w.heap.size := by
    obtain ⟨_, _, e, _, _, _, h5, _⟩ := h
    simp only [Value.slice.injEq] at e
    exact (h5 _ e.1.symm (by simp)).2.2
  obtain ⟨at0, nt, ct, rfl, -⟩ := hT.slice
  have HT := Kp.mk hT
  have H8 := Kp.mk hk8
  have HL := Kp.mk hlen
  have hc0 : w.cell? ⟨b, off, none⟩ = some (.int .u8 k) := by simpa using hc
  have HC0 := Kp.mk hc0
  have HBW := Kp.mk hbw
  have hpos : 0 < len := by rw [hlen0]; simp
  have HPO := Kp.mk hpos
  have HTT : Kp (∀ w1, (Instr.sliceAt 22 (.slice (some ⟨b, off, none⟩) len cap) (some (.int .i64 1)) none none).run Tryd.prog w1 = .ok (.slice at0 nt ct) w1) := ⟨ht⟩
  clear h hc hc0 hbw hk8 hT hlen hlen0 ht
  go_enter Tryd.func36, Tryd.ntmps36
  go_wp2_with fail
  obtain ⟨A, hA⟩ : ∃ A, A = w.heap.size := ⟨_, rfl⟩
  have HA := Kp.mk hA
  rw [← hA]
  refine wp_world (fun W => Row W A 32 .u8 (fill 16 []) ∧ Below A w W) ⟨Blk.newAt _ hA, by rw [hA]; exact more (Below.refl _ _) _⟩ ?_
  clear hA
  rintro W ⟨h1, h5⟩
  refine wp_region_pred (fun w' => Row w' A 32 .u8 (fill 16 []) ∧ Below A w w') [0, 1, 2, 3, 4, 5, 6] [7]
    (fun i w' v => match i with
      | 0 => v = .slice (some ⟨b, off, none⟩) len cap
      | 1 => v = .pointer (some ⟨b, off, none⟩)
      | 2 => v = .int .u8 k
      | 3 => v = .slice (some ⟨b, off, none⟩) len cap
      | 4 => v = .slice at0 nt ct
      | 5 => HoldsP w' v [l]
      | _ => v = dgV (shortL (k :: l)))
    [[], [(0, some 3)], [(1, some 4)], [], [(3, some 6)], [(4, some 7)], [(2, some 5), (5, some 8)]] [(0, some 3), (1, some 4), (2, some 5), (3, some 6), (4, some 7), (5, some 8), (6, some 9)]
    (by kernel_rfl) (by kernel_rfl) (by kernel_rfl) (by kernel_rfl) (by kernel_rfl) (by kernel_rfl) (by decide) (by decide) (fun w1 w2 h hb => ⟨h.1.keep hb, h.2.trans (hb.mono (Nat.le_of_lt h.1.lt))⟩) ?_ ⟨h1.drew, h5.drew⟩ ?_ ?_
  · intro i w1 w2 v h hb
    match i, h with
    | 0, h => exact h
    | 1, h => exact h
    | 2, h => exact h
    | 3, h => exact h
    | 4, h => exact h
    | 5, h => exact HoldsP.keep h hb
    | _ + 6, h => exact h
  · refine ⟨fun γ wx hS h => ⟨_, rfl, Or.inl ⟨rfl, ?_⟩⟩, fun γ wx hS h => ⟨_, rfl, Or.inl ⟨rfl, ?_⟩⟩, fun γ wx hS h => ⟨_, rfl, Or.inl ⟨rfl, ?_⟩⟩, fun γ wx hS h => ⟨_, rfl, Or.inl ⟨rfl, ?_⟩⟩, fun γ wx hS h => ⟨_, rfl, Or.inl ⟨rfl, ?_⟩⟩, fun γ wx hS h => ⟨_, rfl, Or.inl ⟨rfl, ?_⟩⟩, fun γ wx hS h => ⟨_, rfl, Or.inl ⟨rfl, ?_⟩⟩, trivial⟩
    · exact predRun_value rfl rfl
    · have h0' : γ 0 = .slice (some ⟨b, off, none⟩) len cap := h
      exact predRun_value (v := .pointer (some ⟨b, off, none⟩)) (by simp only [putE, h0']; have := HPO.out; go_simp) rfl
    · have h1' : γ 1 = .pointer (some ⟨b, off, none⟩) := h
      have hc : wx.cell? ⟨b, off, none⟩ = some (.int .u8 k) := (World.cell?_of_block (w := w) (a := ⟨b, off, none⟩) (hS.2.block b (by rw [HA.out]; exact HBW.out))).trans HC0.out
      exact predRun_value (v := .int .u8 k) (by simp only [putE, h1']; go_simp) rfl
    · exact predRun_value rfl rfl
    · have h3' : γ 3 = .slice (some ⟨b, off, none⟩) len cap := h
      have ht := HTT.out
      exact predRun_value (v := .slice at0 nt ct) (by simp only [putE, h3']; go_simp) rfl
    · have h4' : γ 4 = .slice at0 nt ct := h
      have hT2 : HoldsB wx wx.heap.size (.slice at0 nt ct) l := (HT.out.keep (by rw [← HA.out]; exact hS.2)).own
      exact predRun_new (w' := wx.alloc (.cells #[.slice at0 nt ct] 22)) (v := .slice (some ⟨wx.heap.size, 0, none⟩) 1 1) (by simp only [putE, h4']; go_simp) (more (Below.refl _ _) _) (holds_one hT2 (Nat.le_refl _))
    · obtain ⟨h2, h5⟩ := h
      have h2' : γ 2 = .int .u8 k := h2
      have h5' : HoldsP wx (γ 5) [l] := h5
      obtain ⟨a, n, c, e5, _⟩ := h5'.slice
      rw [e5] at h5'
      refine predRun_call (f := 25) (args := #[γ 2, γ 5]) (by simp only [putE]; go_simp) ?_
      rw [e5, h2']
      refine (rshort_any k a n c _ wx H8.out h5' (by simp; have := HL.out; omega)).mono ?_
      rintro q w2 ⟨rfl, hb⟩
      exact ⟨_, rfl, congrArg (fun t => dgV (shortL (k :: t))) (by simp), hb⟩
  · intro γ w9 hS h
    have h6 : γ 6 = dgV (shortL (k :: l)) := h.2.2.2.2.2.2
    obtain ⟨z, hz⟩ : ∃ z, z = shortL (k :: l) := ⟨_, rfl⟩
    have HD := Kp.mk (shortL_len (k :: l))
    rw [← hz] at h6 HD
    have HC := Kp.mk (cells49 HD.out)
    have HZ := Kp.mk (size50 HD.out)
    have HF := Kp.mk (hS.1.setRow z)
    have HBf := Kp.mk (Below.row hS.2 (g := A) (Nat.le_refl _) (kv .u8 z).toArray)
    simp only [putE, Act.put, List.setIfInBounds_toArray, List.set_cons_zero, List.set_cons_succ]
    rw [h6]
    refine wpOps_step rfl rfl ?_
    refine wp_store_row 32 (.tmp 2) (.tmp 9) rfl A (kv .u8 z).toArray rfl rfl 32 _ hS.1 HC.out HZ.out (kv_all _ _) ?_
    refine wpOps_done ?_
    have HK9 := Kp.mk hz
    clear h hS h6 hz
    go_wp2_with fail
    refine bodyPost_ret (v := dgV z) ?_ rfl ⟨by rw [HK9.out], by rw [← HA.out]; exact HBf.out⟩
    exact results_cell_row rfl _ _ A 32 _ (0, 0) _ rfl HF.out Tryd.underlying32 rfl HC.out
end Go.Proofs.YtahmioiefmheeaaDoor

namespace Go.Proofs.YtahmioiefmheeaaDoor
open Go.RowKit

theorem ofInt_zero64 (u : Int) (h0 : -9223372036854775808 ≤ u) (h1 : u ≤ 9223372036854775807) : BitVec.ofInt 64 u = 0#64 ↔ u = 0 := by
  refine ⟨fun h => ?_, fun h => by subst h; rfl⟩
  have := congrArg BitVec.toNat h
  rw [BitVec.toNat_ofInt] at this
  simp at this
  omega
theorem ofInt_inj64 (u v : Int) (h0 : 0 ≤ u) (h1 : u ≤ 9223372036854775807) (g0 : 0 ≤ v) (g1 : v ≤ 9223372036854775807) : BitVec.ofInt 64 u = BitVec.ofInt 64 v ↔ u = v := by
  refine ⟨fun h => ?_, fun h => by subst h; rfl⟩
  have := congrArg BitVec.toNat h
  rw [BitVec.toNat_ofInt, BitVec.toNat_ofInt] at this
  omega
set_option maxRecDepth 100000 in
theorem wrap64_zero (b : BitVec 64) : IntKind.i64.wrap (b.toNat : Int) = 0 ↔ b = 0#64 := by
  have h := b.isLt
  rw [IntKind.wrap_i64]
  refine ⟨fun e => ?_, fun e => by rw [e]; decide⟩
  apply BitVec.eq_of_toNat_eq
  simp
  omega
theorem or64 (u v : Int) (h0 : -9223372036854775808 ≤ u) (h1 : u ≤ 9223372036854775807) (g0 : -9223372036854775808 ≤ v) (g1 : v ≤ 9223372036854775807) : bits .or .i64 u v = 0 ↔ u = 0 ∧ v = 0 := by
  have e : bits .or .i64 u v = IntKind.i64.wrap ((BitVec.ofInt 64 u ||| BitVec.ofInt 64 v).toNat : Int) := rfl
  rw [e, wrap64_zero, BitVec.or_eq_zero_iff, ofInt_zero64 u h0 h1, ofInt_zero64 v g0 g1]
theorem xor64 (u v : Int) (h0 : 0 ≤ u) (h1 : u ≤ 9223372036854775807) (g0 : 0 ≤ v) (g1 : v ≤ 9223372036854775807) : bits .xor .i64 u v = 0 ↔ u = v := by
  have e : bits .xor .i64 u v = IntKind.i64.wrap ((BitVec.ofInt 64 u ^^^ BitVec.ofInt 64 v).toNat : Int) := rfl
  rw [e, wrap64_zero, BitVec.xor_eq_zero_iff, ofInt_inj64 u v h0 h1 g0 g1]
theorem xor8 (u v : Int) (h0 : 0 ≤ u ∧ u ≤ 255) (g0 : 0 ≤ v ∧ v ≤ 255) : bits .xor .u8 u v = 0 ↔ u = v := by
  have e : bits .xor .u8 u v = IntKind.u8.wrap ((BitVec.ofInt 8 u ^^^ BitVec.ofInt 8 v).toNat : Int) := rfl
  have h := (BitVec.ofInt 8 u ^^^ BitVec.ofInt 8 v).isLt
  rw [e, IntKind.wrap_u8']
  constructor
  · intro h1
    have h2 : (BitVec.ofInt 8 u ^^^ BitVec.ofInt 8 v) = 0#8 := by
      apply BitVec.eq_of_toNat_eq
      show (BitVec.ofInt 8 u ^^^ BitVec.ofInt 8 v).toNat = 0
      omega
    have h3 := congrArg BitVec.toNat (BitVec.xor_eq_zero_iff.1 h2)
    rw [BitVec.toNat_ofInt, BitVec.toNat_ofInt] at h3
    omega
  · intro h1
    subst h1
    rw [BitVec.xor_self]
    rfl
/-- What the loop holds. -/
theorem take_eq {p q : List Int} {i : Nat} (hi : i < p.length) (hj : i < q.length) : p.take (i + 1) = q.take (i + 1) ↔ p.take i = q.take i ∧ p.getD i 0 = q.getD i 0 := by
  rw [take_succ_get hi, take_succ_get hj]
  constructor
  · intro h
    have := List.append_inj h (by rw [List.length_take, List.length_take]; omega)
    exact ⟨this.1, by simpa using this.2⟩
  · rintro ⟨h1, h2⟩
    rw [h1, h2]
theorem eq_take {p q : List Int} : p = q ↔ p.length = q.length ∧ p.take (min p.length q.length) = q.take (min p.length q.length) := by
  constructor
  · rintro rfl; exact ⟨rfl, rfl⟩
  · rintro ⟨h1, h2⟩
    rw [h1, Nat.min_self, List.take_length] at h2
    rw [List.take_of_length_le (by omega)] at h2
    exact h2
set_option maxRecDepth 100000 in
set_option maxHeartbeats 1000000 in
theorem equal_any (M N : Nat) (v u : Value) (p q : List Int) (w : World) (hp : HoldsB w M v p) (hq : HoldsB w N u q) :
    Calls Tryd.prog 28 #[v, u] w fun r w' => r = .returned (.bool (decide (p = q))) ∧ Below w.heap.size w w' := by
  have hlp := hp.len
  have hlq := hq.len
  unfold maxLen at hlp hlq
  obtain ⟨a, n, cap, rfl, hn⟩ := hp.slice
  obtain ⟨a2, m, cap2, rfl, hm⟩ := hq.slice
  have HP := Kp.mk hp
  have HQ := Kp.mk hq
  have HN := Kp.mk hn
  have HM := Kp.mk hm
  have n0 : n ≤ 9223372036854775807 := by omega
  have m0 : m ≤ 9223372036854775807 := by omega
  clear hp hq hn hm hlp hlq
  go_enter Tryd.func28, Tryd.ntmps28
  go_wp2_with fail
  obtain ⟨k, hk⟩ : ∃ k, k = min n m := ⟨_, rfl⟩
  have hmin : min (n : Int) (m : Int) = (k : Int) := by omega
  rw [hmin]
  have kn : k ≤ n := by omega
  have km : k ≤ m := by omega
  have HKk := Kp.mk hk
  clear hmin hk
  obtain ⟨x0, hx0⟩ : ∃ x0, x0 = bits .xor .i64 (n : Int) (m : Int) := ⟨_, rfl⟩
  have HX0 : Kp (x0 = 0 ↔ n = m) := ⟨by rw [hx0, xor64 _ _ (by omega) (by omega) (by omega) (by omega)]; omega⟩
  have HXR : Kp (-9223372036854775808 ≤ x0 ∧ x0 ≤ 9223372036854775807) := ⟨by
    have h1 : IntKind.i64.min = -9223372036854775808 := rfl
    have h2 : IntKind.i64.max = 9223372036854775807 := rfl
    have := bits_within .xor .i64 (n : Int) (m : Int)
    rw [← hx0, h1, h2] at this
    exact this⟩
  rw [← hx0]
  clear hx0
  obtain ⟨A, hA⟩ : ∃ A, A = w.heap.size := ⟨_, rfl⟩
  have HA := Kp.mk hA
  clear hA
  go_loopw [5, 17] (fun s5 c wr => ∃ (i : Nat) (z : Int), i ≤ k ∧ c = .int .i64 i ∧ s5 = .int .i64 z ∧ (-9223372036854775808 ≤ z ∧ z ≤ 9223372036854775807) ∧ Kp (z = 0 ↔ n = m ∧ p.take i = q.take i) ∧ Below A w wr) (fun _ c _ => k - (intOf c).toNat)
  case atStart => exact ⟨0, x0, by omega, rfl, rfl, HXR.out, ⟨by rw [HX0.out]; simp⟩, by rw [HA.out]; exact Below.refl _ _⟩
  case round =>
    obtain ⟨i, z, hi, rfl, rfl, hz, HZ, hb⟩ := hrel
    have z0 := hz.1
    have z1 := hz.2
    have HB := Kp.mk hb
    clear hz hb
    by_cases hlt : i < k
    · obtain ⟨b, off, rfl, -, hc⟩ := HP.out.cellAt (i := i) (by have := HN.out; omega)
      obtain ⟨b2, off2, rfl, -, hc2⟩ := HQ.out.cellAt (i := i) (by have := HM.out; omega)
      have hl1 : b < w.heap.size := World.block_lt_of_cell? w _ hc
      have hl2 : b2 < w.heap.size := World.block_lt_of_cell? w _ hc2
      have hd1 : wr.cell? ⟨b, off + i, none⟩ = some (.int .u8 (p.getD i 0)) := (World.cell?_of_block (w := w) (a := ⟨b, off + i, none⟩) (HB.out.block b (by rw [HA.out]; exact hl1))).trans hc
      have hd2 : wr.cell? ⟨b2, off2 + i, none⟩ = some (.int .u8 (q.getD i 0)) := (World.cell?_of_block (w := w) (a := ⟨b2, off2 + i, none⟩) (HB.out.block b2 (by rw [HA.out]; exact hl2))).trans hc2
      have r1 := HP.out.bytes.at (i := i) (by have := HN.out; omega)
      have r2 := HQ.out.bytes.at (i := i) (by have := HM.out; omega)
      have HT := Kp.mk (take_eq (p := p) (q := q) (i := i) (by have := HN.out; omega) (by have := HM.out; omega))
      clear hc hc2 hl1 hl2
      generalize p.getD i 0 = x at *
      generalize q.getD i 0 = y at *
      have HE := Kp.mk (xor8 x y r1 r2)
      have HO := Kp.mk (or64 z (bits .xor .u8 x y) z0 z1 (by have := (bits_u8r .xor x y); omega) (by have := (bits_u8r .xor x y); omega))
      have HR := Kp.mk (bits_u8r .xor x y)
      have HR1 := Kp.mk r1
      have HR2 := Kp.mk r2
      have in1 : (i : Int) < n := by omega
      have im1 : (i : Int) < m := by omega
      obtain ⟨r1a, r1b⟩ := r1
      obtain ⟨r2a, r2b⟩ := r2
      go_wp2_with fail
      go_quiet (fail)
      have hw : wrap64 (bits .xor .u8 x y) = bits .xor .u8 x y := by have := HR.out; unfold wrap64; omega
      rw [hw]
      have HZ2 : Kp (bits .or .i64 z (bits .xor .u8 x y) = 0 ↔ n = m ∧ p.take (i + 1) = q.take (i + 1)) := ⟨by rw [HO.out, HZ.out, HE.out, HT.out, and_assoc]⟩
      have HR3 : Kp (-9223372036854775808 ≤ bits .or .i64 z (bits .xor .u8 x y) ∧ bits .or .i64 z (bits .xor .u8 x y) ≤ 9223372036854775807) := ⟨bits_lo_i64 _ _ _, bits_hi_i64 _ _ _⟩
      clear hw
      generalize bits .or .i64 z (bits .xor .u8 x y) = z2 at *
      have HB2 : Kp (Below A w (wr.drewN nq)) := ⟨below_drewN HB.out nq⟩
      clear hd1 hd2
      generalize wr.drewN nq = w2 at *
      go_wp2_with fail
      exact ⟨⟨i + 1, z2, by omega, by go_num, rfl, HR3.out, HZ2, HB2.out⟩, by simp [intOf]; omega⟩
    · have HI : Kp (i = k) := ⟨by omega⟩
      have hge : (k : Int) ≤ i := by omega
      have HF : Kp ((z == 0) = decide (p = q)) := ⟨by
        have h := HZ.out
        rw [HI.out, HKk.out] at h
        have h2 : z = 0 ↔ p = q := by
          rw [h, eq_take (p := p) (q := q), ← HN.out, ← HM.out]
        rw [Bool.eq_iff_iff, beq_iff_eq, decide_eq_true_iff]
        exact h2⟩
      clear hlt hi
      go_wp2_with fail
      go_ret
      exact ⟨by show Ending.returned (.bool (z == 0)) = _; rw [HF.out], by rw [← HA.out]; exact HB.out⟩
set_option maxRecDepth 100000 in
set_option maxHeartbeats 1000000 in
theorem same_any (x y : List Int) (w : World) (hx : x.length = 16) (hxb : Bytes x) (hy : y.length = 16) (hyb : Bytes y) :
    Calls Tryd.prog 29 #[dgV x, dgV y] w fun r w' => r = .returned (.bool (decide (x = y))) ∧ Below w.heap.size w w' := by
  have HX := Kp.mk hx
  have HXB := Kp.mk hxb
  have HY := Kp.mk hy
  have HYB := Kp.mk hyb
  clear hx hxb hy hyb
  go_enter Tryd.func29, Tryd.ntmps29
  go_wp2_with fail
  obtain ⟨A, hA⟩ : ∃ A, A = w.heap.size := ⟨_, rfl⟩
  have HA := Kp.mk hA
  rw [← hA]
  refine wp_world (fun W => Row W A 33 .u8 x ∧ Row W (A + 1) 33 .u8 y ∧ Below A w W) ⟨Blk.old (Blk.newAt _ hA) _, Blk.newAt _ (by simp [hA]), by rw [hA]; exact more (more (Below.refl _ _) _) _⟩ ?_
  clear hA
  rintro W ⟨h1, h2, h3⟩
  refine wp_region_flow (fun w' => Row w' A 33 .u8 x ∧ Row w' (A + 1) 33 .u8 y ∧ Below A w w') (by kernel_rfl) (by kernel_rfl) (by kernel_rfl) (fun w1 w2 h hb => ⟨h.1.keep hb, h.2.1.keep hb, h.2.2.trans (hb.mono (Nat.le_of_lt h.1.lt))⟩) ⟨h1.drew, h2.drew, h3.drew⟩ ?_
  repeat (first
    | (apply Flow.value
       · rfl
       · (intro wx hS; have hs := slice50_all; go_simp; with_reducible rfl)
       try simp only [Act.put, List.setIfInBounds_toArray, List.set_cons_zero, List.set_cons_succ])
    | (apply Flow.call
       · rfl
       · (intro wx hS; go_simp; constructor <;> with_reducible rfl)
       · (intro wx hS; exact equal_any _ _ _ _ x y wx (hold16 hS.1 HX.out HXB.out) (hold16 hS.2.1 HY.out HYB.out))
       try simp only [Act.put, List.setIfInBounds_toArray, List.set_cons_zero, List.set_cons_succ]))
  refine Flow.done ?_
  intro w' hS
  go_wp2_with fail
  go_ret
  exact ⟨rfl, by rw [← HA.out]; exact hS.2.2⟩
theorem number_any (b : Bool) (w : World) : Calls Tryd.prog 94 #[.bool b] w fun r w' => r = .returned (.int .u8 (if b then 1 else 0)) ∧ w' = w := by
  cases b
  · go_enter Tryd.func94, Tryd.ntmps94
    go_wp2_with fail
    go_ret
    exact ⟨rfl, rfl⟩
  · go_enter Tryd.func94, Tryd.ntmps94
    go_wp2_with fail
    go_ret
    exact ⟨rfl, rfl⟩
/-- One byte of what is picked. -/
theorem pick8 (b : Bool) (x y : Int) (hx : 0 ≤ x ∧ x ≤ 255) (hy : 0 ≤ y ∧ y ≤ 255) : bits .xor .u8 x (bits .and .u8 (if b then 255 else 0) (bits .xor .u8 x y)) = if b then y else x := by
  have e : ∀ (op : BinOp) (u v : Int) (f : BitVec 8 → BitVec 8 → BitVec 8), (∀ s t, bits op .u8 s t = IntKind.u8.wrap ((f (BitVec.ofInt 8 s) (BitVec.ofInt 8 t)).toNat : Int)) → BitVec.ofInt 8 (bits op .u8 u v) = f (BitVec.ofInt 8 u) (BitVec.ofInt 8 v) := by
    intro op u v f h
    rw [h, IntKind.wrap_u8']
    have hl := (f (BitVec.ofInt 8 u) (BitVec.ofInt 8 v)).isLt
    apply BitVec.eq_of_toNat_eq
    rw [BitVec.toNat_ofInt]
    omega
  have hz : ∀ u v : Int, 0 ≤ u ∧ u ≤ 255 → 0 ≤ v ∧ v ≤ 255 → BitVec.ofInt 8 u = BitVec.ofInt 8 v → u = v := by
    intro u v hu hv h
    have := congrArg BitVec.toNat h
    rw [BitVec.toNat_ofInt, BitVec.toNat_ofInt] at this
    omega
  refine hz _ _ (bits_u8r _ _ _) (by cases b <;> assumption) ?_
  rw [e .xor _ _ (· ^^^ ·) (fun _ _ => rfl), e .and _ _ (· &&& ·) (fun _ _ => rfl), e .xor _ _ (· ^^^ ·) (fun _ _ => rfl)]
  cases b
  · show BitVec.ofInt 8 x ^^^ (0#8 &&& (BitVec.ofInt 8 x ^^^ BitVec.ofInt 8 y)) = BitVec.ofInt 8 x
    rw [BitVec.zero_and, BitVec.xor_zero]
  · show BitVec.ofInt 8 x ^^^ (BitVec.allOnes 8 &&& (BitVec.ofInt 8 x ^^^ BitVec.ofInt 8 y)) = BitVec.ofInt 8 y
    rw [BitVec.allOnes_and, ← BitVec.xor_assoc, BitVec.xor_self, BitVec.zero_xor]
end Go.Proofs.YtahmioiefmheeaaDoor

namespace Go.Proofs.YtahmioiefmheeaaDoor
open Go.RowKit

set_option maxRecDepth 100000 in
set_option maxHeartbeats 1000000 in
theorem height_any (m : Int) (w : World) : Calls Tryd.prog 60 #[.int .i64 m] w fun r w' => ∃ h, r = .returned (.int .i64 h) ∧ w' = w ∧ ((∃ i : Nat, i < 7 ∧ m = 2 ^ i ∧ h = i) ∨ ((∀ i : Nat, i < 7 → m ≠ 2 ^ i) ∧ h = -1)) := by
  go_enter Tryd.func60, Tryd.ntmps60
  go_wp2_with fail
  go_loopw [4] (fun c wr => ∃ i : Nat, i ≤ 7 ∧ c = .int .i64 i ∧ wr = w ∧ Kp (∀ j : Nat, j < i → m ≠ 2 ^ j)) (fun c _ => 7 - (intOf c).toNat)
  case atStart => exact ⟨0, by omega, rfl, rfl, ⟨fun j hj => by omega⟩⟩
  case round =>
    obtain ⟨i, hi, rfl, rfl, HN⟩ := hrel
    by_cases hlt : i < 7
    · obtain ⟨p, hp⟩ : ∃ p : Int, p = 2 ^ i := ⟨_, rfl⟩
      have hw : wrap64 ((2 : Int) ^ i) = p := by
        rcases (show i = 0 ∨ i = 1 ∨ i = 2 ∨ i = 3 ∨ i = 4 ∨ i = 5 ∨ i = 6 by omega) with rfl | rfl | rfl | rfl | rfl | rfl | rfl <;> (rw [hp]; unfold wrap64; decide)
      have HP := Kp.mk hp
      clear hp
      by_cases hm : m = p
      · have HM := Kp.mk hm
        have t1 : (m == wrap64 ((2 : Int) ^ i)) = true := by rw [hw, beq_iff_eq]; exact hm
        clear hm hw
        go_wp2_with fail
        go_ret
        exact ⟨_, rfl, rfl, .inl ⟨i, hlt, by rw [HM.out, HP.out], rfl⟩⟩
      · have HM := Kp.mk hm
        have t1 : (m == wrap64 ((2 : Int) ^ i)) = false := by rw [hw, beq_eq_false_iff_ne]; exact hm
        clear hm hw
        go_wp2_with fail
        refine ⟨⟨i + 1, by omega, by go_num, trivial, ⟨fun j hj => ?_⟩⟩, by simp [intOf]; omega⟩
        rcases Nat.lt_or_ge j i with h | h
        · exact HN.out j h
        · have : j = i := by omega
          subst this
          rw [← HP.out]
          exact HM.out
    · have hge : 7 ≤ (i : Int) := by omega
      have HI : Kp (i = 7) := ⟨by omega⟩
      clear hlt hi
      go_wp2_with fail
      go_ret
      exact ⟨_, rfl, rfl, .inr ⟨fun j hj => HN.out j (by rw [HI.out]; exact hj), rfl⟩⟩
set_option maxRecDepth 100000 in
theorem has_nil (i : Int) (w : World) : Calls Tryd.prog 103 #[.pointer none, .int .i64 i] w fun r w' => r = .returned (.bool false) ∧ w' = w := by
  go_enter Tryd.func103, Tryd.ntmps103
  go_wp2_with fail
  go_ret
  exact ⟨rfl, rfl⟩
theorem info33 : (Tryd.prog.info? 33).map (·.size) = some 16 := by kernel_rfl
abbrev zeroS : List Int := List.replicate 16 0
set_option maxRecDepth 100000 in
set_option maxHeartbeats 1000000 in
theorem root_nil (w : World) : Calls Tryd.prog 63 #[.pointer none] w fun r w' => r = .returned (dgV zeroS) ∧ Below w.heap.size w w' := by
  go_enter Tryd.func63, Tryd.ntmps63
  go_wp2_with fail
  refine calls_world (fun W => Row W w.heap.size 33 .u8 zeroS ∧ Below w.heap.size w W) ⟨Blk.newAt (w := w) z50 rfl, more (Below.refl _ _) z50⟩ ?_
  rintro w1 ⟨h1, h2⟩
  have HR := Kp.mk h1
  have HB := Kp.mk h2
  clear h1 h2
  refine (has_nil 0 w1).mono ?_
  rintro r w2 ⟨rfl, rfl⟩
  have HF := Kp.mk (HR.out.setRow zeroS)
  have HBf := Kp.mk (Below.row HB.out (g := w.heap.size) (Nat.le_refl _) (kv .u8 zeroS).toArray)
  go_wp2_with (refine wpList_store_row rfl 33 (.tmp 2) (.tmp 6) rfl w.heap.size (kv .u8 zeroS).toArray rfl rfl 33 _ HR.out (cells50 (l := zeroS) rfl) rfl (kv_all _ _) ?_)
  refine bodyPost_ret (v := dgV zeroS) ?_ rfl ⟨rfl, HBf.out⟩
  exact results_cell_row rfl _ _ w.heap.size 33 _ (0, 0) _ rfl HF.out Tryd.underlying33 rfl (cells50 (l := zeroS) rfl)
set_option maxRecDepth 100000 in
theorem path_nil (i : Int) (w : World) : Calls Tryd.prog 66 #[.pointer none, .int .i64 i] w fun r w' => r = .returned (.tuple #[.slice none 0 0, .int .i64 2]) ∧ w' = w := by
  go_enter Tryd.func66, Tryd.ntmps66
  go_wp2_with fail
  go_ret2
  exact ⟨rfl, rfl⟩
end Go.Proofs.YtahmioiefmheeaaDoor

namespace Go.Proofs.YtahmioiefmheeaaDoor
open Go.RowKit

theorem info33' : (Tryd.prog.info? 33).map (fun i => (i.zero, i.size, i.bytes)) = some (some (.agg (kv .u8 (fill 16 [])).toArray), 16, 16) := by kernel_rfl
set_option maxRecDepth 100000 in
set_option maxHeartbeats 1000000 in
theorem clone_one (B : Nat) (s : List Int) (w : World) (h : Row w B 33 .u8 s) (hs : s.length = 16) :
    Calls Tryd.prog 101 #[.slice (some ⟨B, 0, none⟩) 1 1] w fun r w' => ∃ L c, r = .returned (.slice (some ⟨L, 0, none⟩) 1 c) ∧ w'.ownsRow w.heap.size 33 16 (.slice (some ⟨L, 0, none⟩) 1 c) 1 (kv .u8 s) ∧ Below w.heap.size w w' := by
  obtain ⟨i0, hi, hz0, hz1, hz2⟩ := info_parts info33'
  have HR := Kp.mk h
  have HS := Kp.mk hs
  have hcell : ∀ j u, (kv .u8 s)[j]? = some u → (w.alloc (.cells #[] 33)).cell? ((⟨B, 0, none⟩ : Addr).add j) = some u := by
    intro j u hu
    have h2 := Blk.cell (h.alloc (.cells #[] 33)) j
    rw [List.getElem?_toArray, hu] at h2
    have e : (⟨B, 0, none⟩ : Addr).add j = ⟨B, j, none⟩ := by unfold Addr.add; split <;> simp_all
    rw [e]
    exact h2
  have HC := Kp.mk hcell
  clear hcell h hs
  have hql : ∀ w, (binOp .eql 66 (.slice (some ⟨B, 0, none⟩) 1 1) (.slice none 0 0)).run Tryd.prog w = .ok (.bool false) w := fun w => rfl
  go_enter Tryd.func101, Tryd.ntmps101
  go_wp2_with (at_builtin; refine wpList_append_own _ rfl _ _ 66 rfl w.heap.size 33 i0 _ 16 16 Tryd.underlying66 hi hz0 hz1 hz2 rfl (by decide) _ 0 [] rfl (World.ownsRow_made w #[] 0 (Nat.le_refl _) (by unfold maxLen; omega) rfl) ⟨B, 0, none⟩ 1 1 (kv .u8 s) rfl ?c0 HC.out (kv_one _) ?c1 ?c2 ?c3 ?_)
  case c0 => rw [List.length_map, HS.out]
  case c1 => unfold maxLen; omega
  case c2 => omega
  case c3 => simp
  intro v' w' ho hg hn
  have hbel : Below w.heap.size w w' := below_row_grown (more (Below.refl _ _) (.cells #[] 33)) (by simp) (World.ownsRow_made (e := 33) (size := 16) w #[] 0 (Nat.le_refl _) (by unfold maxLen; omega) rfl) hg
  rcases ho.2 with ⟨_, h0⟩ | ⟨L, c, cur, rfl, _⟩
  · omega
  have HO := Kp.mk ho
  have HB := Kp.mk hbel
  clear ho hg hn hbel
  go_wp2_with fail
  go_ret
  exact ⟨L, c, rfl, HO.out, HB.out⟩
/-- The tree over one leaf. -/
structure One (w : World) (G R L c : Nat) (s : List Int) : Prop where
  g : Blk w G (.cells #[.slice (some ⟨R, 0, none⟩) 1 1] 141)
  r : Blk w R (.cells #[.slice (some ⟨L, 0, none⟩) 1 c] 66)
  l : w.rangeAt L 0 (kv .u8 s)
  lt : L < w.heap.size
theorem One.keep {w w' : World} {G R L c : Nat} {s : List Int} (h : One w G R L c s) (hb : Below w.heap.size w w') : One w' G R L c s :=
  ⟨h.g.keep hb, h.r.keep hb, fun j v hj => (hb.cell (p := ⟨L, 0 + j, none⟩) h.lt).trans (h.l j v hj), Nat.lt_of_lt_of_le h.lt hb.size⟩
set_option maxRecDepth 100000 in
set_option maxHeartbeats 1000000 in
theorem new_one (d e : Int) (B : Nat) (s : List Int) (w : World) (h : Row w B 33 .u8 s) (hs : s.length = 16) :
    Calls Tryd.prog 59 #[.int .i64 d, .int .u32 e, .slice (some ⟨B, 0, none⟩) 1 1] w fun r w' => ∃ G R L c, r = .returned (.tuple #[.pointer (some ⟨G, 0, none⟩), .int .i64 0]) ∧ One w' G R L c s ∧ Below w.heap.size w w' := by
  have HR := Kp.mk h
  have HS := Kp.mk hs
  clear h hs
  go_enter Tryd.func59, Tryd.ntmps59
  go_wp2_with fail
  refine (height_any 1 w).mono ?_
  rintro r w1 ⟨hh, rfl, rfl, h2⟩
  have h0 : hh = 0 := by
    rcases h2 with ⟨i, hi, e1, e2⟩ | ⟨hn, _⟩
    · match i, hi with
      | 0, _ => simpa using e2
      | i + 1, _ =>
        exfalso
        have : (2 : Int) ^ (i + 1) = 2 * 2 ^ i := by rw [Int.pow_succ, Int.mul_comm]
        omega
    · exact absurd rfl (hn 0 (by omega))
  subst h0
  clear h2
  go_wp2_with fail
  refine (clone_one B s w1 HR.out HS.out).mono ?_
  rintro r w2 ⟨L, c, rfl, ho, hb⟩
  have HL : Kp (w2.rangeAt L 0 (kv .u8 s) ∧ L < w2.heap.size) := ⟨by
    rcases ho.2 with ⟨e, _⟩ | ⟨g, cap, cur, e, _, hg, _, _, _, ht⟩
    · simp at e
    · simp only [Value.slice.injEq, Option.some.injEq, Addr.mk.injEq, and_true] at e
      obtain ⟨rfl, _⟩ := e
      refine ⟨fun j v hj => ?_, (Array.getElem?_eq_some_iff.1 hg).1⟩
      rw [cell_of_row w2 L (0 + j) cur 33 (0, 0) hg, Nat.zero_add, ← Array.getElem?_toList]
      rw [← ht, List.getElem?_take] at hj
      split at hj
      · exact hj
      · cases hj⟩
  have HB := Kp.mk hb
  clear ho hb
  go_wp2_with fail
  refine wp_world (fun W => One W (w2.heap.size + 1) w2.heap.size L c s ∧ Below w1.heap.size w1 W) ⟨⟨Blk.newAt _ (by simp), Blk.old (Blk.newAt _ rfl) _, ?_, by have := HL.out.2; simp; omega⟩, more (more HB.out _) _⟩ ?_
  · intro j v hj
    have h1 := HL.out.1 j v hj
    have hb2 : Below w2.heap.size w2 ((w2.alloc (.cells #[.slice (some ⟨L, 0, none⟩) 1 c] 66)).alloc (.cells #[.slice (some ⟨w2.heap.size, 0, none⟩) 1 1] 141)) := more (more (Below.refl _ _) _) _
    exact (hb2.cell (p := ⟨L, 0 + j, none⟩) HL.out.2).trans h1
  rintro W ⟨h1, h2⟩
  have HO := Kp.mk h1
  have HW := Kp.mk h2
  clear h1 h2
  obtain ⟨G, hG⟩ : ∃ G, G = w2.heap.size + 1 := ⟨_, rfl⟩
  obtain ⟨R, hR⟩ : ∃ R, R = w2.heap.size := ⟨_, rfl⟩
  rw [← hG, ← hR] at HO
  rw [← hG]
  clear hG hR HB HL
  go_loopw [22] (fun q wr => q = .int .i64 0 ∧ Kp (One wr G R L c s) ∧ Kp (Below w1.heap.size w1 wr)) (fun _ _ => 0)
  case atStart => exact ⟨rfl, HO, HW⟩
  case round =>
    obtain ⟨rfl, F1, F2⟩ := hrel
    go_wp2_with fail
    go_ret2
    exact ⟨G, R, L, c, rfl, F1.out, F2.out⟩
end Go.Proofs.YtahmioiefmheeaaDoor
