/-
  ladder.Leaf, ladder.Join.
  grove.Above.
  The document's LeafText, JoinText.
  The document's JoinText, Of.
  The document's Text of layer 7.
  ladder.Leaf.
  Rows of texts: what the document's Node hands back.
-/
import Derived.Test.YtahmioiefmheeaaDoorGf08
import Derived.Deep.AppendLies
namespace Go.Proofs.YtahmioiefmheeaaDoor
open Go.RowKit

theorem holdsP_three {w : World} {v1 v2 v3 : Value} {l1 l2 l3 : List Int} (h1 : HoldsB w w.heap.size v1 l1) (h2 : HoldsB w w.heap.size v2 l2) (h3 : HoldsB w w.heap.size v3 l3) :
    HoldsP (w.alloc (.cells #[v1, v2, v3] 22)) (.slice (some ⟨w.heap.size, 0, none⟩) 3 3) [l1, l2, l3] := by
  have hB := Blk.new w (.cells #[v1, v2, v3] 22)
  have hm : ∀ v l, HoldsB w w.heap.size v l → HoldsB (w.alloc (.cells #[v1, v2, v3] 22)) (w.alloc (.cells #[v1, v2, v3] 22)).heap.size v l := fun v l h => (h.alloc _).mono (by simp)
  refine ⟨_, 3, rfl, by unfold maxLen; simp, fun i hi => ?_⟩
  match i, hi with
  | 0, _ =>
    obtain ⟨a, n, c, rfl, _⟩ := h1.slice
    exact ⟨w.heap.size, 0, a, n, c, rfl, by simp, hB.cell 0, hm _ _ h1⟩
  | 1, _ =>
    obtain ⟨a, n, c, rfl, _⟩ := h2.slice
    exact ⟨w.heap.size, 0, a, n, c, rfl, by simp, hB.cell 1, hm _ _ h2⟩
  | 2, _ =>
    obtain ⟨a, n, c, rfl, _⟩ := h3.slice
    exact ⟨w.heap.size, 0, a, n, c, rfl, by simp, hB.cell 2, hm _ _ h3⟩
  | i + 3, hi => exact absurd hi (by simp)
/-- The texts of a leaf, of what stands above two. -/
def leafT (d e s r : Int) (el : List Int) (id : Int) : List Int := 76 :: (placeL d e s r ++ el ++ [id % 256])
def joinT (d e s r : Int) (x y : List Int) : List Int := 74 :: (placeL d e s r ++ x ++ y)
theorem leafT_flat (d e s r : Int) (el : List Int) (id : Int) : 76 :: [placeL d e s r, el, [id % 256]].flatten = leafT d e s r el id := by simp [leafT]
theorem joinT_flat (d e s r : Int) (x y : List Int) : 74 :: [placeL d e s r, x, y].flatten = joinT d e s r x y := by simp [joinT]
theorem hold16 {w : World} {b : Nat} {t : TypeId} {l : List Int} (h : Row w b t .u8 l) (hl : l.length = 16) (hb : Bytes l) : HoldsB w w.heap.size (.slice (some ⟨b, 0, none⟩) 16 16) l := by
  have h2 := HoldsB.ofBytes h hb (by rw [hl]; decide)
  rw [hl] at h2
  exact h2
theorem cells51 (d e s : Int) : (Tryd.prog.info? 51).map (·.size) = some (#[Value.int .i64 d, .int .u32 e, .int .u32 s]).size := by kernel_rfl
theorem cells48 (d e s : Int) : (Tryd.prog.info? 48).map (·.size) = some (#[Value.int .i64 d, .int .u32 e, .int .u32 s]).size := by kernel_rfl
set_option maxRecDepth 100000 in
set_option maxHeartbeats 1000000 in
theorem join_any (d e s r : Int) (x y : List Int) (w : World) (hk : KonIs w) (he : 0 ≤ e ∧ e < 4294967296) (hs : 0 ≤ s ∧ s < 4294967296) (hx : x.length = 16) (hxb : Bytes x) (hy : y.length = 16) (hyb : Bytes y) :
    Calls Tryd.prog 38 #[plV d e s, .int .i64 r, dgV x, dgV y] w fun q w' => q = .returned (dgV (shortL (joinT d e s r x y))) ∧ Below w.heap.size w w' := by
  have HK := Kp.mk hk
  have HE := Kp.mk he
  have HS := Kp.mk hs
  have HX := Kp.mk hx
  have HXB := Kp.mk hxb
  have HY := Kp.mk hy
  have HYB := Kp.mk hyb
  clear hk he hs hx hxb hy hyb
  go_enter Tryd.func38, Tryd.ntmps38
  go_wp2_with fail
  obtain ⟨A, hA⟩ : ∃ A, A = w.heap.size := ⟨_, rfl⟩
  have HA := Kp.mk hA
  rw [← hA]
  refine wp_world (fun W => Blk W A (.cells #[.int .i64 d, .int .u32 e, .int .u32 s] 51) ∧ Row W (A + 1) 33 .u8 x ∧ Row W (A + 2) 33 .u8 y ∧ Row W (A + 3) 33 .u8 (fill 16 []) ∧ Below A w W) ⟨?_, ?_, ?_, ?_, ?_⟩ ?_
  · exact Blk.old (Blk.old (Blk.old (Blk.newAt _ hA) _) _) _
  · exact Blk.old (Blk.old (Blk.newAt _ (by simp [hA])) _) _
  · exact Blk.old (Blk.newAt _ (by simp [hA])) _
  · exact Blk.newAt _ (by simp [hA])
  · rw [hA]; exact more (more (more (more (Below.refl _ _) _) _) _) _
  rw [show A + 1 + 1 = A + 2 from rfl, show A + 2 + 1 = A + 3 from rfl]
  clear hA
  rintro W ⟨h1, h2, h3, h4, h5⟩
  refine wp_region_pred (fun w' => Blk w' A (.cells #[.int .i64 d, .int .u32 e, .int .u32 s] 51) ∧ Row w' (A + 1) 33 .u8 x ∧ Row w' (A + 2) 33 .u8 y ∧ Row w' (A + 3) 33 .u8 (fill 16 []) ∧ Below A w w') [0, 1, 2, 3, 4, 5, 6] [7]
    (fun i w' v => match i with
      | 0 => v = plV d e s
      | 1 => v = .int .i64 r
      | 2 => HoldsB w' w'.heap.size v (placeL d e s r)
      | 3 => v = .slice (some ⟨A + 1, 0, none⟩) 16 16
      | 4 => v = .slice (some ⟨A + 2, 0, none⟩) 16 16
      | 5 => HoldsP w' v [placeL d e s r, x, y]
      | _ => v = dgV (shortL (joinT d e s r x y)))
    [[], [], [(0, some 9), (1, some 10)], [], [], [(2, some 11), (3, some 12), (4, some 13)], [(2, some 11), (5, some 14)]] [(0, some 9), (1, some 10), (2, some 11), (3, some 12), (4, some 13), (5, some 14), (6, some 15)]
    (by kernel_rfl) (by kernel_rfl) (by kernel_rfl) (by kernel_rfl) (by kernel_rfl) (by kernel_rfl) (by decide) (by decide) (fun w1 w2 h hb => ⟨h.1.keep hb, h.2.1.keep hb, h.2.2.1.keep hb, h.2.2.2.1.keep hb, h.2.2.2.2.trans (hb.mono (Nat.le_of_lt h.1.lt))⟩) ?_ ⟨h1.draw, h2.drew, h3.drew, h4.drew, h5.drew⟩ ?_ ?_
  · intro i w1 w2 v h hb
    match i, h with
    | 0, h => exact h
    | 1, h => exact h
    | 2, h => exact (HoldsB.keep h hb).mono hb.size
    | 3, h => exact h
    | 4, h => exact h
    | 5, h => exact HoldsP.keep h hb
    | _ + 6, h => exact h
  · refine ⟨fun γ wx hS h => ⟨_, rfl, Or.inl ⟨rfl, ?_⟩⟩, fun γ wx hS h => ⟨_, rfl, Or.inl ⟨rfl, ?_⟩⟩, fun γ wx hS h => ⟨_, rfl, Or.inl ⟨rfl, ?_⟩⟩, fun γ wx hS h => ⟨_, rfl, Or.inl ⟨rfl, ?_⟩⟩, fun γ wx hS h => ⟨_, rfl, Or.inl ⟨rfl, ?_⟩⟩, fun γ wx hS h => ⟨_, rfl, Or.inl ⟨rfl, ?_⟩⟩, fun γ wx hS h => ⟨_, rfl, Or.inl ⟨rfl, ?_⟩⟩, trivial⟩
    · exact predRun_value (exec_load_blk 51 (.tmp 4) rfl A rfl 51 _ (0, 0) _ hS.1 Tryd.underlying51 rfl (cells51 d e s)) rfl
    · exact predRun_value rfl rfl
    · obtain ⟨h0, h1⟩ := h
      refine predRun_call (f := 97) (args := #[γ 0, γ 1]) (by simp only [putE]; go_simp) ?_
      rw [show γ 0 = plV d e s from h0, show γ 1 = .int .i64 r from h1]
      exact withRung_any d e s r wx HE.out HS.out
    · exact predRun_value (v := .slice (some ⟨A + 1, 0, none⟩) 16 16) (by simp only [putE]; have hs := slice50_all; go_simp) rfl
    · exact predRun_value (v := .slice (some ⟨A + 2, 0, none⟩) 16 16) (by simp only [putE]; have hs := slice50_all; go_simp) rfl
    · obtain ⟨h2, h3, h4⟩ := h
      have h3' : γ 3 = .slice (some ⟨A + 1, 0, none⟩) 16 16 := h3
      have h4' : γ 4 = .slice (some ⟨A + 2, 0, none⟩) 16 16 := h4
      have h2' : HoldsB wx wx.heap.size (γ 2) (placeL d e s r) := h2
      obtain ⟨a, n, c, e2, _⟩ := h2'.slice
      rw [e2] at h2'
      refine predRun_new (w' := wx.alloc (.cells #[.slice a n c, .slice (some ⟨A + 1, 0, none⟩) 16 16, .slice (some ⟨A + 2, 0, none⟩) 16 16] 22)) (v := .slice (some ⟨wx.heap.size, 0, none⟩) 3 3) (by simp only [putE, e2, h3', h4']; go_simp) (more (Below.refl _ _) _) ?_
      exact holdsP_three h2' (hold16 hS.2.1 HX.out HXB.out) (hold16 hS.2.2.1 HY.out HYB.out)
    · obtain ⟨_, h5⟩ := h
      have h5' : HoldsP wx (γ 5) [placeL d e s r, x, y] := h5
      obtain ⟨a, n, c, e5, _⟩ := h5'.slice
      rw [e5] at h5'
      refine predRun_call (f := 24) (args := #[.int .u8 74, γ 5]) (by simp only [putE]; go_simp) ?_
      rw [e5]
      refine (short_any 74 a n c _ wx (HK.out.keep (by rw [← HA.out]; exact hS.2.2.2.2)) (by omega) h5' (by simp [placeL_len, HX.out, HY.out])).mono ?_
      rintro q w2 ⟨rfl, hb⟩
      exact ⟨_, rfl, congrArg (fun t => dgV (shortL t)) (joinT_flat d e s r x y), hb⟩
  · intro γ w9 hS h
    have h6 : γ 6 = dgV (shortL (joinT d e s r x y)) := h.2.2.2.2.2.2
    obtain ⟨z, hz⟩ : ∃ z, z = shortL (joinT d e s r x y) := ⟨_, rfl⟩
    have HD := Kp.mk (shortL_len (joinT d e s r x y))
    rw [← hz] at h6 HD
    have HC := Kp.mk (cells50 HD.out)
    have HZ := Kp.mk (size50 HD.out)
    have HF := Kp.mk (hS.2.2.2.1.setRow z)
    have HBf := Kp.mk (Below.row hS.2.2.2.2 (g := A + 3) (by omega) (kv .u8 z).toArray)
    simp only [putE, Act.put, List.setIfInBounds_toArray, List.set_cons_zero, List.set_cons_succ]
    rw [h6]
    refine wpOps_step rfl rfl ?_
    refine wp_store_row 33 (.tmp 8) (.tmp 15) rfl (A + 3) (kv .u8 z).toArray rfl rfl 33 _ hS.2.2.2.1 HC.out HZ.out (kv_all _ _) ?_
    refine wpOps_done ?_
    have HK9 := Kp.mk hz
    clear h hS h6 hz
    go_wp2_with fail
    refine bodyPost_ret (v := dgV z) ?_ rfl ⟨by rw [HK9.out], by rw [← HA.out]; exact HBf.out⟩
    exact results_cell_row rfl _ _ (A + 3) 33 _ (0, 0) _ rfl HF.out Tryd.underlying33 rfl HC.out
end Go.Proofs.YtahmioiefmheeaaDoor

namespace Go.Proofs.YtahmioiefmheeaaDoor
open Go.RowKit

/-- The six bytes of a node's place, the text of what stands above two. -/
def atL (d e v : Int) : List Int := [d % 256] ++ be32 e ++ [v % 256]
def aboveT (d e v : Int) (x y : List Int) : List Int := 71 :: (atL d e v ++ x ++ y)
theorem aboveT_flat (d e v : Int) (x y : List Int) : 71 :: [atL d e v, x, y].flatten = aboveT d e v x y := by simp [aboveT]
theorem atL_bytes (d e v : Int) : Bytes (atL d e v) := by
  unfold atL
  refine (Bytes.append ?_ (be32_bytes e)).append ?_
  · intro x hx; simp at hx; omega
  · intro x hx; simp at hx; omega
set_option maxRecDepth 100000 in
theorem slice143_all (b : Nat) (w : World) : (Instr.sliceAt 143 (.pointer (some ⟨b, 0, none⟩)) none none none).run Tryd.prog w = .ok (.slice (some ⟨b, 0, none⟩) 6 6) w := by
  have hl : Tryd.prog.arrayLen 143 = 6 := by kernel_rfl
  have he : Tryd.prog.elem 143 = 5 := by kernel_rfl
  rw [run_sliceAt_array_all (ht := Tryd.underlying143), hl, he, size5]
  rfl
set_option maxRecDepth 100000 in
set_option maxHeartbeats 1000000 in
theorem above_any (d e v : Int) (x y : List Int) (w : World) (hk : KonIs w) (he : 0 ≤ e ∧ e < 4294967296) (hx : x.length = 16) (hxb : Bytes x) (hy : y.length = 16) (hyb : Bytes y) :
    Calls Tryd.prog 70 #[.int .i64 d, .int .u32 e, .int .i64 v, dgV x, dgV y] w fun q w' => q = .returned (dgV (shortL (aboveT d e v x y))) ∧ Below w.heap.size w w' := by
  have HK := Kp.mk hk
  have e0 := he.1
  have e1 := he.2
  have HX := Kp.mk hx
  have HXB := Kp.mk hxb
  have HY := Kp.mk hy
  have HYB := Kp.mk hyb
  clear hk he hx hxb hy hyb
  go_enter Tryd.func70, Tryd.ntmps70
  go_wp2_with fail
  obtain ⟨A, hA⟩ : ∃ A, A = w.heap.size := ⟨_, rfl⟩
  have HA := Kp.mk hA
  rw [← hA]
  refine wp_world (fun W => Row W A 33 .u8 x ∧ Row W (A + 1) 33 .u8 y ∧ Row W (A + 2) 33 .u8 (fill 16 []) ∧ Row W (A + 3) 143 .u8 (atL d e v) ∧ Below A w W) ⟨?_, ?_, ?_, ?_, ?_⟩ ?_
  · exact Blk.old (Blk.old (Blk.old (Blk.newAt _ hA) _) _) _
  · exact Blk.old (Blk.old (Blk.newAt _ (by simp [hA])) _) _
  · exact Blk.old (Blk.newAt _ (by simp [hA])) _
  · have e4 : e / 16777216 = e / 16777216 % 256 := by omega
    rw [e4]
    exact Blk.newAt _ (by simp [hA])
  · rw [hA]; exact more (more (more (more (Below.refl _ _) _) _) _) _
  rw [show A + 1 + 1 = A + 2 from rfl, show A + 2 + 1 = A + 3 from rfl]
  clear hA e0 e1
  rintro W ⟨h1, h2, h3, h4, h5⟩
  refine wp_region_pred (fun w' => Row w' A 33 .u8 x ∧ Row w' (A + 1) 33 .u8 y ∧ Row w' (A + 2) 33 .u8 (fill 16 []) ∧ Row w' (A + 3) 143 .u8 (atL d e v) ∧ Below A w w') [0, 1, 2, 3, 4] [5]
    (fun i w' q => match i with
      | 0 => q = .slice (some ⟨A + 3, 0, none⟩) 6 6
      | 1 => q = .slice (some ⟨A, 0, none⟩) 16 16
      | 2 => q = .slice (some ⟨A + 1, 0, none⟩) 16 16
      | 3 => HoldsP w' q [atL d e v, x, y]
      | _ => q = dgV (shortL (aboveT d e v x y)))
    [[], [], [], [(0, some 28), (1, some 29), (2, some 30)], [(3, some 31)]] [(0, some 28), (1, some 29), (2, some 30), (3, some 31), (4, some 32)]
    (by kernel_rfl) (by kernel_rfl) (by kernel_rfl) (by kernel_rfl) (by kernel_rfl) (by kernel_rfl) (by decide) (by decide) (fun w1 w2 h hb => ⟨h.1.keep hb, h.2.1.keep hb, h.2.2.1.keep hb, h.2.2.2.1.keep hb, h.2.2.2.2.trans (hb.mono (Nat.le_of_lt h.1.lt))⟩) ?_ ⟨h1.drew, h2.drew, h3.drew, h4.drew, h5.drew⟩ ?_ ?_
  · intro i w1 w2 q h hb
    match i, h with
    | 0, h => exact h
    | 1, h => exact h
    | 2, h => exact h
    | 3, h => exact HoldsP.keep h hb
    | _ + 4, h => exact h
  · refine ⟨fun γ wx hS h => ⟨_, rfl, Or.inl ⟨rfl, ?_⟩⟩, fun γ wx hS h => ⟨_, rfl, Or.inl ⟨rfl, ?_⟩⟩, fun γ wx hS h => ⟨_, rfl, Or.inl ⟨rfl, ?_⟩⟩, fun γ wx hS h => ⟨_, rfl, Or.inl ⟨rfl, ?_⟩⟩, fun γ wx hS h => ⟨_, rfl, Or.inl ⟨rfl, ?_⟩⟩, trivial⟩
    · exact predRun_value (v := .slice (some ⟨A + 3, 0, none⟩) 6 6) (by simp only [putE]; have hs := slice143_all; go_simp) rfl
    · exact predRun_value (v := .slice (some ⟨A, 0, none⟩) 16 16) (by simp only [putE]; have hs := slice50_all; go_simp) rfl
    · exact predRun_value (v := .slice (some ⟨A + 1, 0, none⟩) 16 16) (by simp only [putE]; have hs := slice50_all; go_simp) rfl
    · obtain ⟨h2, h3, h4⟩ := h
      have h2' : γ 0 = .slice (some ⟨A + 3, 0, none⟩) 6 6 := h2
      have h3' : γ 1 = .slice (some ⟨A, 0, none⟩) 16 16 := h3
      have h4' : γ 2 = .slice (some ⟨A + 1, 0, none⟩) 16 16 := h4
      refine predRun_new (w' := wx.alloc (.cells #[.slice (some ⟨A + 3, 0, none⟩) 6 6, .slice (some ⟨A, 0, none⟩) 16 16, .slice (some ⟨A + 1, 0, none⟩) 16 16] 22)) (v := .slice (some ⟨wx.heap.size, 0, none⟩) 3 3) (by simp only [putE, h2', h3', h4']; go_simp) (more (Below.refl _ _) _) ?_
      have h6 : HoldsB wx wx.heap.size (.slice (some ⟨A + 3, 0, none⟩) 6 6) (atL d e v) := HoldsB.ofBytes hS.2.2.2.1 (atL_bytes d e v) (by show 6 ≤ maxLen; decide)
      exact holdsP_three h6 (hold16 hS.1 HX.out HXB.out) (hold16 hS.2.1 HY.out HYB.out)
    · have h5' : HoldsP wx (γ 3) [atL d e v, x, y] := h
      obtain ⟨a, n, c, e5, _⟩ := h5'.slice
      rw [e5] at h5'
      refine predRun_call (f := 24) (args := #[.int .u8 71, γ 3]) (by simp only [putE]; go_simp) ?_
      rw [e5]
      refine (short_any 71 a n c _ wx (HK.out.keep (by rw [← HA.out]; exact hS.2.2.2.2)) (by omega) h5' (by simp [atL, be32_len, HX.out, HY.out])).mono ?_
      rintro q w2 ⟨rfl, hb⟩
      exact ⟨_, rfl, congrArg (fun t => dgV (shortL t)) (aboveT_flat d e v x y), hb⟩
  · intro γ w9 hS h
    have h6 : γ 4 = dgV (shortL (aboveT d e v x y)) := h.2.2.2.2
    obtain ⟨z, hz⟩ : ∃ z, z = shortL (aboveT d e v x y) := ⟨_, rfl⟩
    have HD := Kp.mk (shortL_len (aboveT d e v x y))
    rw [← hz] at h6 HD
    have HC := Kp.mk (cells50 HD.out)
    have HZ := Kp.mk (size50 HD.out)
    have HF := Kp.mk (hS.2.2.1.setRow z)
    have HBf := Kp.mk (Below.row hS.2.2.2.2 (g := A + 2) (by omega) (kv .u8 z).toArray)
    simp only [putE, Act.put, List.setIfInBounds_toArray, List.set_cons_zero, List.set_cons_succ]
    rw [h6]
    refine wpOps_step rfl rfl ?_
    refine wp_store_row 33 (.tmp 10) (.tmp 32) rfl (A + 2) (kv .u8 z).toArray rfl rfl 33 _ hS.2.2.1 HC.out HZ.out (kv_all _ _) ?_
    refine wpOps_done ?_
    have HK9 := Kp.mk hz
    clear h hS h6 hz
    go_wp2_with fail
    refine bodyPost_ret (v := dgV z) ?_ rfl ⟨by rw [HK9.out], by rw [← HA.out]; exact HBf.out⟩
    exact results_cell_row rfl _ _ (A + 2) 33 _ (0, 0) _ rfl HF.out Tryd.underlying33 rfl HC.out
end Go.Proofs.YtahmioiefmheeaaDoor

namespace Go.Proofs.YtahmioiefmheeaaDoor
open Go.RowKit

set_option maxRecDepth 100000 in
theorem slice32_all (b : Nat) (w : World) : (Instr.sliceAt 32 (.pointer (some ⟨b, 0, none⟩)) none none none).run Tryd.prog w = .ok (.slice (some ⟨b, 0, none⟩) 16 16) w := by
  have hl : Tryd.prog.arrayLen 32 = 16 := by kernel_rfl
  have he : Tryd.prog.elem 32 = 5 := by kernel_rfl
  rw [run_sliceAt_array_all (ht := Tryd.underlying32), hl, he, size5]
  rfl
theorem wp_assign_end {P : Program} {o : Oper} {a : Act} {w : World} {K : Act → World → Prop} {Q : Exit → Act → World → Prop} {x : Operand} {v : Value} (ho : o.op = .assign x) (hx : a.eval x = v) (h : K (a.put o.dst v) w) : o.wp P a w K Q := by
  unfold Oper.wp execOp
  simp only [ho, hx, Sem.run_pure]
  exact h

set_option maxRecDepth 100000 in
set_option maxHeartbeats 1000000 in
theorem rleafT_any (d e s r : Int) (x : List Int) (id : Int) (w : World) (he : 0 ≤ e ∧ e < 4294967296) (hs : 0 ≤ s ∧ s < 4294967296) (hx : x.length = 16) (hxb : Bytes x) :
    Calls Tryd.prog 37 #[plV d e s, .int .i64 r, dgV x, .int .i64 id] w fun q w' => ∃ v', q = .returned v' ∧ HoldsB w' w'.heap.size v' (leafT d e s r x id) ∧ Below w.heap.size w w' := by
  have HE := Kp.mk he
  have HS := Kp.mk hs
  have HX := Kp.mk hx
  have HXB := Kp.mk hxb
  clear he hs hx hxb
  go_enter Tryd.func37, Tryd.ntmps37
  go_wp2_with fail
  obtain ⟨A, hA⟩ : ∃ A, A = w.heap.size := ⟨_, rfl⟩
  have HA := Kp.mk hA
  rw [← hA]
  refine wp_world (fun W => Blk W A (.cells #[.int .i64 d, .int .u32 e, .int .u32 s] 48) ∧ Row W (A + 1) 32 .u8 x ∧ Below A w W) ⟨?_, ?_, ?_⟩ ?_
  · exact Blk.old (Blk.newAt _ hA) _
  · exact Blk.newAt _ (by simp [hA])
  · rw [hA]; exact more (more (Below.refl _ _) _) _
  clear hA
  rintro W ⟨h1, h2, h5⟩
  refine wp_region_pred (fun w' => Blk w' A (.cells #[.int .i64 d, .int .u32 e, .int .u32 s] 48) ∧ Row w' (A + 1) 32 .u8 x ∧ Below A w w') [0, 1, 2, 3, 4, 5, 6, 7, 8] [9]
    (fun i w' v => match i with
      | 0 => v = plV d e s
      | 1 => v = .int .i64 r
      | 2 => HoldsB w' w'.heap.size v (placeL d e s r)
      | 3 => v = .slice (some ⟨A + 1, 0, none⟩) 16 16
      | 4 => v = .int .i64 id
      | 5 => v = .int .u8 (id % 256)
      | 6 => HoldsB w' w'.heap.size v [id % 256]
      | 7 => HoldsP w' v [placeL d e s r, x, [id % 256]]
      | _ => HoldsB w' w'.heap.size v (leafT d e s r x id))
    [[], [], [(0, some 9), (1, some 10)], [], [], [(4, some 13)], [(5, some 14)], [(2, some 11), (3, some 12), (6, some 15)], [(2, some 11), (7, some 16)]] [(0, some 9), (1, some 10), (2, some 11), (3, some 12), (4, some 13), (5, some 14), (6, some 15), (7, some 16), (8, some 17)]
    (by kernel_rfl) (by kernel_rfl) (by kernel_rfl) (by kernel_rfl) (by kernel_rfl) (by kernel_rfl) (by decide) (by decide) (fun w1 w2 h hb => ⟨h.1.keep hb, h.2.1.keep hb, h.2.2.trans (hb.mono (Nat.le_of_lt h.1.lt))⟩) ?_ ⟨h1.draw, h2.drew, h5.drew⟩ ?_ ?_
  · intro i w1 w2 v h hb
    match i, h with
    | 0, h => exact h
    | 1, h => exact h
    | 2, h => exact (HoldsB.keep h hb).mono hb.size
    | 3, h => exact h
    | 4, h => exact h
    | 5, h => exact h
    | 6, h => exact (HoldsB.keep h hb).mono hb.size
    | 7, h => exact HoldsP.keep h hb
    | _ + 8, h => exact (HoldsB.keep h hb).mono hb.size
  · refine ⟨fun γ wx hS h => ⟨_, rfl, Or.inl ⟨rfl, ?_⟩⟩, fun γ wx hS h => ⟨_, rfl, Or.inl ⟨rfl, ?_⟩⟩, fun γ wx hS h => ⟨_, rfl, Or.inl ⟨rfl, ?_⟩⟩, fun γ wx hS h => ⟨_, rfl, Or.inl ⟨rfl, ?_⟩⟩, fun γ wx hS h => ⟨_, rfl, Or.inl ⟨rfl, ?_⟩⟩, fun γ wx hS h => ⟨_, rfl, Or.inl ⟨rfl, ?_⟩⟩, fun γ wx hS h => ⟨_, rfl, Or.inl ⟨rfl, ?_⟩⟩, fun γ wx hS h => ⟨_, rfl, Or.inl ⟨rfl, ?_⟩⟩, fun γ wx hS h => ⟨_, rfl, Or.inl ⟨rfl, ?_⟩⟩, trivial⟩
    · exact predRun_value (exec_load_blk 48 (.tmp 4) rfl A rfl 48 _ (0, 0) _ hS.1 Tryd.underlying48 rfl (cells48 d e s)) rfl
    · exact predRun_value rfl rfl
    · obtain ⟨h0, h1⟩ := h
      refine predRun_call (f := 98) (args := #[γ 0, γ 1]) (by simp only [putE]; go_simp) ?_
      rw [show γ 0 = plV d e s from h0, show γ 1 = .int .i64 r from h1]
      exact rplace_any d e s r wx HE.out HS.out
    · exact predRun_value (v := .slice (some ⟨A + 1, 0, none⟩) 16 16) (by simp only [putE]; have hs := slice32_all; go_simp) rfl
    · exact predRun_value rfl rfl
    · have h4' : γ 4 = .int .i64 id := h
      exact predRun_value (v := .int .u8 (id % 256)) (by simp only [putE, h4']; go_simp; exact IntKind.wrap_u8' _) rfl
    · have h5' : γ 5 = .int .u8 (id % 256) := h
      exact predRun_new (w' := wx.alloc (.cells #[.int .u8 (id % 256)] 5)) (v := .slice (some ⟨wx.heap.size, 0, none⟩) 1 1) (by simp only [putE, h5']; go_simp) (more (Below.refl _ _) _) (one_holds wx _ (by omega))
    · obtain ⟨h2, h3, h6⟩ := h
      have h3' : γ 3 = .slice (some ⟨A + 1, 0, none⟩) 16 16 := h3
      have h2' : HoldsB wx wx.heap.size (γ 2) (placeL d e s r) := h2
      have h6' : HoldsB wx wx.heap.size (γ 6) [id % 256] := h6
      obtain ⟨a, n, c, e2, _⟩ := h2'.slice
      rw [e2] at h2'
      obtain ⟨a6, n6, c6, e6, _⟩ := h6'.slice
      rw [e6] at h6'
      refine predRun_new (w' := wx.alloc (.cells #[.slice a n c, .slice (some ⟨A + 1, 0, none⟩) 16 16, .slice a6 n6 c6] 22)) (v := .slice (some ⟨wx.heap.size, 0, none⟩) 3 3) (by simp only [putE, e2, h3', e6]; go_simp) (more (Below.refl _ _) _) ?_
      exact holdsP_three h2' (hold16 hS.2.1 HX.out HXB.out) h6'
    · obtain ⟨_, h7⟩ := h
      have h7' : HoldsP wx (γ 7) [placeL d e s r, x, [id % 256]] := h7
      obtain ⟨a, n, c, e7, _⟩ := h7'.slice
      rw [e7] at h7'
      refine predRun_call (f := 90) (args := #[.int .u8 76, γ 7]) (by simp only [putE]; go_simp) ?_
      rw [e7]
      refine (rtext_any 76 a n c _ wx (by omega) h7' (by simp [placeL_len, HX.out])).mono ?_
      rintro q w2 ⟨v', rfl, hh, _, hb⟩
      exact ⟨v', rfl, (leafT_flat d e s r x id) ▸ hh, hb⟩
  · intro γ w9 hS h
    have h8 : HoldsB w9 w9.heap.size (γ 8) (leafT d e s r x id) := h.2.2.2.2.2.2.2.2
    have HB := Kp.mk hS.2.2
    have H8 := Kp.mk h8
    simp only [putE, Act.put, List.setIfInBounds_toArray, List.set_cons_zero, List.set_cons_succ]
    clear h hS h8
    generalize γ 8 = v8 at *
    refine wpOps_step rfl rfl ?_
    refine wp_assign_end rfl rfl ?_
    refine wpOps_done ?_
    go_wp2_with fail
    go_ret
    exact ⟨_, rfl, H8.out, by rw [← HA.out]; exact HB.out⟩
end Go.Proofs.YtahmioiefmheeaaDoor

namespace Go.Proofs.YtahmioiefmheeaaDoor
open Go.RowKit

set_option maxRecDepth 100000 in
set_option maxHeartbeats 1000000 in
theorem rjoinT_any (d e s r : Int) (x y : List Int) (w : World) (he : 0 ≤ e ∧ e < 4294967296) (hs : 0 ≤ s ∧ s < 4294967296) (hx : x.length = 16) (hxb : Bytes x) (hy : y.length = 16) (hyb : Bytes y) :
    Calls Tryd.prog 39 #[plV d e s, .int .i64 r, dgV x, dgV y] w fun q w' => ∃ v', q = .returned v' ∧ HoldsB w' w'.heap.size v' (joinT d e s r x y) ∧ Below w.heap.size w w' := by
  have HE := Kp.mk he
  have HS := Kp.mk hs
  have HX := Kp.mk hx
  have HXB := Kp.mk hxb
  have HY := Kp.mk hy
  have HYB := Kp.mk hyb
  clear he hs hx hxb hy hyb
  go_enter Tryd.func39, Tryd.ntmps39
  go_wp2_with fail
  obtain ⟨A, hA⟩ : ∃ A, A = w.heap.size := ⟨_, rfl⟩
  have HA := Kp.mk hA
  rw [← hA]
  refine wp_world (fun W => Blk W A (.cells #[.int .i64 d, .int .u32 e, .int .u32 s] 48) ∧ Row W (A + 1) 32 .u8 x ∧ Row W (A + 2) 32 .u8 y ∧ Below A w W) ⟨?_, ?_, ?_, ?_⟩ ?_
  · exact Blk.old (Blk.old (Blk.newAt _ hA) _) _
  · exact Blk.old (Blk.newAt _ (by simp [hA])) _
  · exact Blk.newAt _ (by simp [hA])
  · rw [hA]; exact more (more (more (Below.refl _ _) _) _) _
  rw [show A + 1 + 1 = A + 2 from rfl]
  clear hA
  rintro W ⟨h1, h2, h3, h5⟩
  refine wp_region_pred (fun w' => Blk w' A (.cells #[.int .i64 d, .int .u32 e, .int .u32 s] 48) ∧ Row w' (A + 1) 32 .u8 x ∧ Row w' (A + 2) 32 .u8 y ∧ Below A w w') [0, 1, 2, 3, 4, 5, 6] [7]
    (fun i w' v => match i with
      | 0 => v = plV d e s
      | 1 => v = .int .i64 r
      | 2 => HoldsB w' w'.heap.size v (placeL d e s r)
      | 3 => v = .slice (some ⟨A + 1, 0, none⟩) 16 16
      | 4 => v = .slice (some ⟨A + 2, 0, none⟩) 16 16
      | 5 => HoldsP w' v [placeL d e s r, x, y]
      | _ => HoldsB w' w'.heap.size v (joinT d e s r x y))
    [[], [], [(0, some 9), (1, some 10)], [], [], [(2, some 11), (3, some 12), (4, some 13)], [(2, some 11), (5, some 14)]] [(0, some 9), (1, some 10), (2, some 11), (3, some 12), (4, some 13), (5, some 14), (6, some 15)]
    (by kernel_rfl) (by kernel_rfl) (by kernel_rfl) (by kernel_rfl) (by kernel_rfl) (by kernel_rfl) (by decide) (by decide) (fun w1 w2 h hb => ⟨h.1.keep hb, h.2.1.keep hb, h.2.2.1.keep hb, h.2.2.2.trans (hb.mono (Nat.le_of_lt h.1.lt))⟩) ?_ ⟨h1.draw, h2.drew, h3.drew, h5.drew⟩ ?_ ?_
  · intro i w1 w2 v h hb
    match i, h with
    | 0, h => exact h
    | 1, h => exact h
    | 2, h => exact (HoldsB.keep h hb).mono hb.size
    | 3, h => exact h
    | 4, h => exact h
    | 5, h => exact HoldsP.keep h hb
    | _ + 6, h => exact (HoldsB.keep h hb).mono hb.size
  · refine ⟨fun γ wx hS h => ⟨_, rfl, Or.inl ⟨rfl, ?_⟩⟩, fun γ wx hS h => ⟨_, rfl, Or.inl ⟨rfl, ?_⟩⟩, fun γ wx hS h => ⟨_, rfl, Or.inl ⟨rfl, ?_⟩⟩, fun γ wx hS h => ⟨_, rfl, Or.inl ⟨rfl, ?_⟩⟩, fun γ wx hS h => ⟨_, rfl, Or.inl ⟨rfl, ?_⟩⟩, fun γ wx hS h => ⟨_, rfl, Or.inl ⟨rfl, ?_⟩⟩, fun γ wx hS h => ⟨_, rfl, Or.inl ⟨rfl, ?_⟩⟩, trivial⟩
    · exact predRun_value (exec_load_blk 48 (.tmp 4) rfl A rfl 48 _ (0, 0) _ hS.1 Tryd.underlying48 rfl (cells48 d e s)) rfl
    · exact predRun_value rfl rfl
    · obtain ⟨h0, h1⟩ := h
      refine predRun_call (f := 98) (args := #[γ 0, γ 1]) (by simp only [putE]; go_simp) ?_
      rw [show γ 0 = plV d e s from h0, show γ 1 = .int .i64 r from h1]
      exact rplace_any d e s r wx HE.out HS.out
    · exact predRun_value (v := .slice (some ⟨A + 1, 0, none⟩) 16 16) (by simp only [putE]; have hs := slice32_all; go_simp) rfl
    · exact predRun_value (v := .slice (some ⟨A + 2, 0, none⟩) 16 16) (by simp only [putE]; have hs := slice32_all; go_simp) rfl
    · obtain ⟨h2, h3, h4⟩ := h
      have h3' : γ 3 = .slice (some ⟨A + 1, 0, none⟩) 16 16 := h3
      have h4' : γ 4 = .slice (some ⟨A + 2, 0, none⟩) 16 16 := h4
      have h2' : HoldsB wx wx.heap.size (γ 2) (placeL d e s r) := h2
      obtain ⟨a, n, c, e2, _⟩ := h2'.slice
      rw [e2] at h2'
      refine predRun_new (w' := wx.alloc (.cells #[.slice a n c, .slice (some ⟨A + 1, 0, none⟩) 16 16, .slice (some ⟨A + 2, 0, none⟩) 16 16] 22)) (v := .slice (some ⟨wx.heap.size, 0, none⟩) 3 3) (by simp only [putE, e2, h3', h4']; go_simp) (more (Below.refl _ _) _) ?_
      exact holdsP_three h2' (hold16 hS.2.1 HX.out HXB.out) (hold16 hS.2.2.1 HY.out HYB.out)
    · obtain ⟨_, h5⟩ := h
      have h5' : HoldsP wx (γ 5) [placeL d e s r, x, y] := h5
      obtain ⟨a, n, c, e5, _⟩ := h5'.slice
      rw [e5] at h5'
      refine predRun_call (f := 90) (args := #[.int .u8 74, γ 5]) (by simp only [putE]; go_simp) ?_
      rw [e5]
      refine (rtext_any 74 a n c _ wx (by omega) h5' (by simp [placeL_len, HX.out, HY.out])).mono ?_
      rintro q w2 ⟨v', rfl, hh, _, hb⟩
      exact ⟨v', rfl, (joinT_flat d e s r x y) ▸ hh, hb⟩
  · intro γ w9 hS h
    have h6 : HoldsB w9 w9.heap.size (γ 6) (joinT d e s r x y) := h.2.2.2.2.2.2
    have HB := Kp.mk hS.2.2.2
    have H6 := Kp.mk h6
    simp only [putE, Act.put, List.setIfInBounds_toArray, List.set_cons_zero, List.set_cons_succ]
    clear h hS h6
    generalize γ 6 = v6 at *
    refine wpOps_step rfl rfl ?_
    refine wp_assign_end rfl rfl ?_
    refine wpOps_done ?_
    go_wp2_with fail
    go_ret
    exact ⟨_, rfl, H6.out, by rw [← HA.out]; exact HB.out⟩
theorem holdsB_tail {w : World} {M : Nat} {v : Value} {k : Int} {l : List Int} (h : HoldsB w M v (k :: l)) :
    ∃ v', (∀ w1, (Instr.sliceAt 22 v (some (.int .i64 1)) none none).run Tryd.prog w1 = .ok v' w1) ∧ HoldsB w M v' l := by
  obtain ⟨v', h1, h2⟩ := h.back (k := 1) (by simp)
  exact ⟨v', h1, h2⟩
set_option maxRecDepth 100000 in
set_option maxHeartbeats 1000000 in
theorem of_any (M : Nat) (v : Value) (k : Int) (l : List Int) (w : World) (h : HoldsB w M v (k :: l)) (hlen : l.length ≤ 1000000) :
    Calls Tryd.prog 36 #[v] w fun q w' => q = .returned (dgV (shortL (k :: l))) ∧ Below w.heap.size w w' := by
  obtain ⟨vt, ht, hT⟩ := holdsB_tail h
  obtain ⟨a, len, cap, rfl, hlen0⟩ := h.slice
  obtain ⟨b, off, rfl, -, hc⟩ := h.cellAt (i := 0) (by simp)
  have hk8 : 0 ≤ k ∧ k ≤ 255 := h.bytes k (by simp)
  have hbw : b < w.heap.size := by
    obtain ⟨_, _, e, _, _, _, h5, _⟩ := h
    simp only [Value.slice.injEq] at e
    exact (h5 _ e.1.symm (by simp)).2.2
  obtain ⟨at0, nt, ct, rfl, -⟩ := hT.slice
  have HT := Kp.mk hT
  have H8 := Kp.mk hk8
  have HL := Kp.mk hlen
  have hc0 : w.cell? ⟨b, off, none⟩ = some (.int .u8 k) := by simpa using hc
  have HC0 := Kp.mk hc0
  have HBW := Kp.mk hbw
  have hpos : 0 < len := by rw [hlen0]; simp
  have HPO := Kp.mk hpos
  have HTT : Kp (∀ w1, (Instr.sliceAt 22 (.slice (some ⟨b, off, none⟩) len cap) (some (.int .i64 1)) none none).run Tryd.prog w1 = .ok (.slice at0 nt ct) w1) := ⟨ht⟩
  clear h hc hc0 hbw hk8 hT hlen hlen0 ht
  go_enter Tryd.func36, Tryd.ntmps36
  go_wp2_with fail
  obtain ⟨A, hA⟩ : ∃ A, A = w.heap.size := ⟨_, rfl⟩
  have HA := Kp.mk hA
  rw [← hA]
  refine wp_world (fun W => Row W A 32 .u8 (fill 16 []) ∧ Below A w W) ⟨Blk.newAt _ hA, by rw [hA]; exact more (Below.refl _ _) _⟩ ?_
  clear hA
  rintro W ⟨h1, h5⟩
  refine wp_region_pred (fun w' => Row w' A 32 .u8 (fill 16 []) ∧ Below A w w') [0, 1, 2, 3, 4, 5, 6] [7]
    (fun i w' v => match i with
      | 0 => v = .slice (some ⟨b, off, none⟩) len cap
      | 1 => v = .pointer (some ⟨b, off, none⟩)
      | 2 => v = .int .u8 k
      | 3 => v = .slice (some ⟨b, off, none⟩) len cap
      | 4 => v = .slice at0 nt ct
      | 5 => HoldsP w' v [l]
      | _ => v = dgV (shortL (k :: l)))
    [[], [(0, some 3)], [(1, some 4)], [], [(3, some 6)], [(4, some 7)], [(2, some 5), (5, some 8)]] [(0, some 3), (1, some 4), (2, some 5), (3, some 6), (4, some 7), (5, some 8), (6, some 9)]
    (by kernel_rfl) (by kernel_rfl) (by kernel_rfl) (by kernel_rfl) (by kernel_rfl) (by kernel_rfl) (by decide) (by decide) (fun w1 w2 h hb => ⟨h.1.keep hb, h.2.trans (hb.mono (Nat.le_of_lt h.1.lt))⟩) ?_ ⟨h1.drew, h5.drew⟩ ?_ ?_
  · intro i w1 w2 v h hb
    match i, h with
    | 0, h => exact h
    | 1, h => exact h
    | 2, h => exact h
    | 3, h => exact h
    | 4, h => exact h
    | 5, h => exact HoldsP.keep h hb
    | _ + 6, h => exact h
  · refine ⟨fun γ wx hS h => ⟨_, rfl, Or.inl ⟨rfl, ?_⟩⟩, fun γ wx hS h => ⟨_, rfl, Or.inl ⟨rfl, ?_⟩⟩, fun γ wx hS h => ⟨_, rfl, Or.inl ⟨rfl, ?_⟩⟩, fun γ wx hS h => ⟨_, rfl, Or.inl ⟨rfl, ?_⟩⟩, fun γ wx hS h => ⟨_, rfl, Or.inl ⟨rfl, ?_⟩⟩, fun γ wx hS h => ⟨_, rfl, Or.inl ⟨rfl, ?_⟩⟩, fun γ wx hS h => ⟨_, rfl, Or.inl ⟨rfl, ?_⟩⟩, trivial⟩
    · exact predRun_value rfl rfl
    · have h0' : γ 0 = .slice (some ⟨b, off, none⟩) len cap := h
      exact predRun_value (v := .pointer (some ⟨b, off, none⟩)) (by simp only [putE, h0']; have := HPO.out; go_simp) rfl
    · have h1' : γ 1 = .pointer (some ⟨b, off, none⟩) := h
      have hc : wx.cell? ⟨b, off, none⟩ = some (.int .u8 k) := (World.cell?_of_block (w := w) (a := ⟨b, off, none⟩) (hS.2.block b (by rw [HA.out]; exact HBW.out))).trans HC0.out
      exact predRun_value (v := .int .u8 k) (by simp only [putE, h1']; go_simp) rfl
    · exact predRun_value rfl rfl
    · have h3' : γ 3 = .slice (some ⟨b, off, none⟩) len cap := h
      have ht := HTT.out
      exact predRun_value (v := .slice at0 nt ct) (by simp only [putE, h3']; go_simp) rfl
    · have h4' : γ 4 = .slice at0 nt ct := h
      have hT2 : HoldsB wx wx.heap.size (.slice at0 nt ct) l := (HT.out.keep (by rw [← HA.out]; exact hS.2)).own
      exact predRun_new (w' := wx.alloc (.cells #[.slice at0 nt ct] 22)) (v := .slice (some ⟨wx.heap.size, 0, none⟩) 1 1) (by simp only [putE, h4']; go_simp) (more (Below.refl _ _) _) (holds_one hT2 (Nat.le_refl _))
    · obtain ⟨h2, h5⟩ := h
      have h2' : γ 2 = .int .u8 k := h2
      have h5' : HoldsP wx (γ 5) [l] := h5
      obtain ⟨a, n, c, e5, _⟩ := h5'.slice
      rw [e5] at h5'
      refine predRun_call (f := 25) (args := #[γ 2, γ 5]) (by simp only [putE]; go_simp) ?_
      rw [e5, h2']
      refine (rshort_any k a n c _ wx H8.out h5' (by simp; have := HL.out; omega)).mono ?_
      rintro q w2 ⟨rfl, hb⟩
      exact ⟨_, rfl, congrArg (fun t => dgV (shortL (k :: t))) (by simp), hb⟩
  · intro γ w9 hS h
    have h6 : γ 6 = dgV (shortL (k :: l)) := h.2.2.2.2.2.2
    obtain ⟨z, hz⟩ : ∃ z, z = shortL (k :: l) := ⟨_, rfl⟩
    have HD := Kp.mk (shortL_len (k :: l))
    rw [← hz] at h6 HD
    have HC := Kp.mk (cells49 HD.out)
    have HZ := Kp.mk (size50 HD.out)
    have HF := Kp.mk (hS.1.setRow z)
    have HBf := Kp.mk (Below.row hS.2 (g := A) (Nat.le_refl _) (kv .u8 z).toArray)
    simp only [putE, Act.put, List.setIfInBounds_toArray, List.set_cons_zero, List.set_cons_succ]
    rw [h6]
    refine wpOps_step rfl rfl ?_
    refine wp_store_row 32 (.tmp 2) (.tmp 9) rfl A (kv .u8 z).toArray rfl rfl 32 _ hS.1 HC.out HZ.out (kv_all _ _) ?_
    refine wpOps_done ?_
    have HK9 := Kp.mk hz
    clear h hS h6 hz
    go_wp2_with fail
    refine bodyPost_ret (v := dgV z) ?_ rfl ⟨by rw [HK9.out], by rw [← HA.out]; exact HBf.out⟩
    exact results_cell_row rfl _ _ A 32 _ (0, 0) _ rfl HF.out Tryd.underlying32 rfl HC.out
end Go.Proofs.YtahmioiefmheeaaDoor

namespace Go.Proofs.YtahmioiefmheeaaDoor
open Go.RowKit

set_option maxRecDepth 100000 in
set_option maxHeartbeats 2000000 in
theorem rtextG_any (d e v : Int) (x y : List Int) (w : World) (he : 0 ≤ e ∧ e < 4294967296) (hx : x.length = 16) (hxb : Bytes x) (hy : y.length = 16) (hyb : Bytes y) :
    Calls Tryd.prog 71 #[.int .i64 d, .int .u32 e, .int .i64 v, dgV x, dgV y] w fun q w' => ∃ v', q = .returned v' ∧ HoldsB w' w'.heap.size v' (aboveT d e v x y) ∧ (∀ g, v'.ownBlock = some g → w.heap.size ≤ g) ∧ Below w.heap.size w w' := by
  have HE := Kp.mk he
  have e0 := he.1
  have e1 := he.2
  have HX := Kp.mk hx
  have HXB := Kp.mk hxb
  have HY := Kp.mk hy
  have HYB := Kp.mk hyb
  obtain ⟨i0, hi, hz0, hz1, hz2⟩ := info_parts info5
  clear he hx hxb hy hyb
  go_enter Tryd.func71, Tryd.ntmps71
  go_wp2_with fail
  obtain ⟨A, hA⟩ : ∃ A, A = w.heap.size := ⟨_, rfl⟩
  have HA := Kp.mk hA
  rw [← hA]
  obtain ⟨B, hB⟩ : ∃ B, B = A + 1 + 1 := ⟨_, rfl⟩
  have HB := Kp.mk hB
  refine calls_world (fun W => W.ownsRow B 5 1 (.slice (some ⟨B, 0, none⟩) 1 1) 1 (bv [d % 256]) ∧ Row W A 32 .u8 x ∧ Row W (A + 1) 32 .u8 y ∧ Below A w W ∧ B ≤ W.heap.size) ⟨?_, Blk.old (Blk.old (Blk.newAt _ hA) _) _, Blk.old (Blk.newAt _ (by simp [hA])) _, by rw [hA]; exact more (more (more (Below.refl _ _) _) _) _, by rw [hB, hA]; simp⟩ ?_
  · have h := ownsRow_one ((w.alloc (.cells (kv .u8 x).toArray 32)).alloc (.cells (kv .u8 y).toArray 32)) (d % 256)
    have e1 : ((w.alloc (.cells (kv .u8 x).toArray 32)).alloc (.cells (kv .u8 y).toArray 32)).heap.size = B := by rw [hB, hA]; simp
    rw [e1] at h
    exact h
  rw [← hB]
  clear hA hB
  rintro W ⟨h1, h2, h3, h4, h5⟩
  have G1 := Kp.mk h1
  have R1 := Kp.mk h2
  have R2 := Kp.mk h3
  have G2 := Kp.mk (And.intro h4 h5)
  clear h1 h2 h3 h4 h5
  refine (num_any e 4 W (Or.inl rfl) HE.out.1 (by have := HE.out.2; omega)).mono ?_
  rintro q w1 ⟨v1, rfl, h1, h2⟩
  have F1 := Kp.mk h1
  have FO := Kp.mk (ownsRow_below G1.out h2)
  have Q1 := Kp.mk (R1.out.keep h2)
  have Q2 := Kp.mk (R2.out.keep h2)
  have FB : Kp (Below A w w1 ∧ B ≤ w1.heap.size) := ⟨G2.out.1.trans (h2.mono (by have := R1.out.lt; omega)), Nat.le_trans G2.out.2 h2.size⟩
  clear h1 h2 G1 G2 R1 R2
  go_wp2_with (at_builtin; refine wpList_append_holds rfl _ _ rfl B _ _ _ rfl FO.out _ _ (numL e 4) rfl F1.out ?c0 ?c1 ?_)
  case c0 => rw [numL_len]; omega
  case c1 => exact FB.out.2
  intro v2 w2 ho hg
  have hbel : Below B w1 w2 := below_row_grown (Below.refl _ _) FB.out.2 FO.out hg
  have ho2 : w2.ownsRow B 5 1 v2 5 (bv ([d % 256] ++ be32 e)) := by
    rw [numL_len, numL_four] at ho
    exact ho
  obtain ⟨a2, c2, rfl⟩ := row_slice ho2
  have G1 := Kp.mk ho2
  have G2 : Kp (Below A w w2 ∧ B ≤ w2.heap.size) := ⟨FB.out.1.trans (hbel.mono (by have := HB.out; omega)), Nat.le_trans FB.out.2 hbel.size⟩
  have R1 := Kp.mk (Q1.out.upto hbel (by have := HB.out; omega))
  have R2 := Kp.mk (Q2.out.upto hbel (by have := HB.out; omega))
  clear ho hg hbel ho2 F1 FO FB Q1 Q2
  go_wp2_with fail
  refine wp_region_any (by kernel_rfl) ?_
  change wpAny _ _ _ _ _ _ _ (World.drew _)
  refine wpAny_take (i := 0) (oi := { dst := some 19, op := Go.Op.move (Go.Operand.tmp 11), type := 22, pos := "ref.go:19", after := #[], guard := none }) (v := .slice a2 5 c2) rfl (by kernel_rfl) (by kernel_rfl) (by kernel_rfl) (fun _ _ _ h => h) (Or.inl ⟨by rfl, fun w => by go_simp⟩) ?_
  simp only [Act.put, List.setIfInBounds_toArray, List.set_cons_zero, List.set_cons_succ]
  refine wpAny_take (i := 1) (oi := { dst := some 20, op := Go.Op.move (Go.Operand.tmp 2), type := 3, pos := "ref.go:19", after := #[], guard := none }) (v := .int .i64 v) rfl (by kernel_rfl) (by kernel_rfl) (by kernel_rfl) (fun _ _ _ h => h) (Or.inl ⟨by rfl, fun w => by go_simp⟩) ?_
  simp only [Act.put, List.setIfInBounds_toArray, List.set_cons_zero, List.set_cons_succ]
  refine wpAny_take (i := 2) (oi := { dst := some 21, op := Go.Op.convert 3 5 (Go.Operand.tmp 20), type := 5, pos := "ref.go:19", after := #[{ on := 1, ground := Go.Ground.data }], guard := none }) (v := .int .u8 (v % 256)) rfl (by kernel_rfl) (by kernel_rfl) (by kernel_rfl) (fun _ _ _ h => h) (Or.inl ⟨by rfl, fun w => by go_simp; exact IntKind.wrap_u8' _⟩) ?_
  simp only [Act.put, List.setIfInBounds_toArray, List.set_cons_zero, List.set_cons_succ]
  refine wpAny_take (i := 5) (oi := { dst := some 24, op := Go.Op.slice 32 (Go.Operand.tmp 8) none none none, type := 22, pos := "ref.go:19", after := #[], guard := none }) (v := .slice (some ⟨A, 0, none⟩) 16 16) rfl (by kernel_rfl) (by kernel_rfl) (by kernel_rfl) (fun _ _ _ h => h) (Or.inl ⟨by rfl, fun w => by have hs := slice32_all; go_simp⟩) ?_
  simp only [Act.put, List.setIfInBounds_toArray, List.set_cons_zero, List.set_cons_succ]
  refine wpAny_take (i := 6) (oi := { dst := some 25, op := Go.Op.slice 32 (Go.Operand.tmp 9) none none none, type := 22, pos := "ref.go:19", after := #[], guard := none }) (v := .slice (some ⟨A + 1, 0, none⟩) 16 16) rfl (by kernel_rfl) (by kernel_rfl) (by kernel_rfl) (fun _ _ _ h => h) (Or.inl ⟨by rfl, fun w => by have hs := slice32_all; go_simp⟩) ?_
  simp only [Act.put, List.setIfInBounds_toArray, List.set_cons_zero, List.set_cons_succ]
  refine wpAny_ready (rs := [3]) (by kernel_rfl) (by simp) ?_
  refine AllReady.cons (o := { dst := some 22, op := Go.Op.buildSlice 22 1 #[(0, Go.Operand.tmp 21)], type := 22, pos := "ref.go:19", after := #[{ on := 2, ground := Go.Ground.data }], guard := none }) rfl (fun K hK => ?_) AllReady.nil
  go_simp
  refine hK _ _ ?_
  clear hK K
  try simp only [Act.put, List.setIfInBounds_toArray, List.set_cons_zero, List.set_cons_succ]
  refine wpAny_ready (rs := [4]) (by kernel_rfl) (by simp) ?_
  refine AllReady.cons (o := { dst := some 23, op := Go.Op.call { callee := Go.Callee.builtin Go.Builtin.append, args := #[Go.Operand.tmp 19, Go.Operand.tmp 22], argTypes := #[22, 22] }, type := 22, pos := "ref.go:19", after := #[{ on := 0, ground := Go.Ground.data }, { on := 3, ground := Go.Ground.data }], guard := none }) rfl (fun K hK => ?_) AllReady.nil
  refine step_append_lies _ rfl (.tmp 19) (.tmp 22) 22 rfl B 5 i0 (.int .u8 0) 1 1 Tryd.underlying22 hi hz0 hz1 hz2 rfl (by decide) _ 5 _ rfl ((show (World.drew w2).ownsRow B 5 1 (.slice a2 5 c2) 5 (bv ([d % 256] ++ be32 e)) from G1.out).alloc _) ⟨w2.heap.size, 0, none⟩ 1 1 (bv [v % 256]) rfl rfl ?d0 ?d1 (by decide) (by decide) (by decide) ?d2 (w2.heap.size + 1) ?d3 ?_
  case d0 => exact World.news_of_block (Blk.new (World.drew w2) (.cells #[.int .u8 (v % 256)] 5))
  case d1 => exact bv_one _
  case d2 => have := G2.out.2; simp; omega
  case d3 => simp
  intro g cap w3 ho hg hv hlt
  have hbel : Below B w2 w3 := below_row_grown (((Below.refl B w2).drew.alloc G2.out.2 _) : Below B w2 ((World.drew w2).alloc (.cells #[.int .u8 (v % 256)] 5))) (by have := G2.out.2; simp; omega) ((show (World.drew w2).ownsRow B 5 1 (.slice a2 5 c2) 5 (bv ([d % 256] ++ be32 e)) from G1.out).alloc _) hg
  have HO : Kp (HoldsB w3 w3.heap.size (.slice (some ⟨g, 0, none⟩) (5 + 1) cap) (atL d e v)) := ⟨HoldsB.ofRow (atL_bytes d e v) ho⟩
  have H1 := Kp.mk (R1.out.upto hbel (by have := HB.out; omega))
  have H2 := Kp.mk (R2.out.upto hbel (by have := HB.out; omega))
  have H3 : Kp (Below A w w3) := ⟨G2.out.1.trans (hbel.mono (by have := HB.out; omega))⟩
  clear ho hg hv hlt hbel
  refine hK _ _ ?_
  clear hK K
  try simp only [Act.put, List.setIfInBounds_toArray, List.set_cons_zero, List.set_cons_succ]
  refine wpAny_ready (rs := [7]) (by kernel_rfl) (by simp) ?_
  refine AllReady.cons (o := { dst := some 26, op := Go.Op.buildSlice 31 3 #[(0, Go.Operand.tmp 23), (1, Go.Operand.tmp 24), (2, Go.Operand.tmp 25)], type := 31, pos := "ref.go:19", after := #[{ on := 4, ground := Go.Ground.data }, { on := 5, ground := Go.Ground.data }, { on := 6, ground := Go.Ground.data }], guard := none }) rfl (fun K hK => ?_) AllReady.nil
  go_simp
  refine hK _ _ ?_
  clear hK K
  try simp only [Act.put, List.setIfInBounds_toArray, List.set_cons_zero, List.set_cons_succ]
  refine wpAny_ready (rs := [8]) (by kernel_rfl) (by simp) ?_
  refine AllReady.cons (o := { dst := some 27, op := Go.Op.call { callee := Go.Callee.value (Go.Operand.func 90), args := #[Go.Operand.const (Go.Value.int Go.IntKind.u8 71), Go.Operand.tmp 26], argTypes := #[5, 31] }, type := 22, pos := "ref.go:19", after := #[{ on := 7, ground := Go.Ground.data }, { on := 4, ground := Go.Ground.chain }], guard := none }) rfl (fun K hK => ?_) AllReady.nil
  go_simp
  refine (rtext_any 71 _ 3 3 [atL d e v, x, y] (w3.alloc (.cells #[.slice (some ⟨g, 0, none⟩) (5 + 1) cap, .slice (some ⟨A, 0, none⟩) 16 16, .slice (some ⟨A + 1, 0, none⟩) 16 16] 22)) (by omega) (holdsP_three HO.out (hold16 H1.out HX.out HXB.out) (hold16 H2.out HY.out HYB.out)) (by simp [atL, be32_len, HX.out, HY.out])).mono ?_
  rintro q w5 ⟨v', rfl, hh, hf, hb⟩
  rw [aboveT_flat] at hh
  have F1 := Kp.mk hh
  have F2 : Kp (Below A w w5) := ⟨(H3.out.alloc (by have := H1.out.lt; omega) _).trans (hb.mono (by have := H1.out.lt; simp; omega))⟩
  have F3 : Kp (∀ g, v'.ownBlock = some g → w.heap.size ≤ g) := ⟨fun g hg => by have h1 := hf g hg; have := H3.out.size; simp at h1; omega⟩
  clear hh hf hb H1 H2 H3 HO
  refine hK _ _ ?_
  clear hK K
  try simp only [Act.put, List.setIfInBounds_toArray, List.set_cons_zero, List.set_cons_succ]
  refine wpAny_ready (rs := [9]) (by kernel_rfl) (by simp) ?_
  refine AllReady.cons (o := { dst := some 10, op := Go.Op.assign (Go.Operand.tmp 27), type := 22, pos := "ref.go:19", after := #[{ on := 8, ground := Go.Ground.data }, { on := 8, ground := Go.Ground.chain }, { on := 0, ground := Go.Ground.phase }, { on := 1, ground := Go.Ground.phase }, { on := 2, ground := Go.Ground.phase }, { on := 3, ground := Go.Ground.phase }, { on := 4, ground := Go.Ground.phase }, { on := 5, ground := Go.Ground.phase }, { on := 6, ground := Go.Ground.phase }, { on := 7, ground := Go.Ground.phase }, { on := 8, ground := Go.Ground.phase }], guard := none }) rfl (fun K hK => ?_) AllReady.nil
  go_simp
  refine hK _ _ ?_
  clear hK K
  try simp only [Act.put, List.setIfInBounds_toArray, List.set_cons_zero, List.set_cons_succ]
  refine wpAny_done (by kernel_rfl) ?_ _
  go_wp2_with fail
  go_ret
  exact ⟨_, rfl, F1.out, F3.out, by rw [← HA.out]; exact F2.out⟩
end Go.Proofs.YtahmioiefmheeaaDoor

namespace Go.Proofs.YtahmioiefmheeaaDoor
open Go.RowKit

set_option maxRecDepth 100000 in
set_option maxHeartbeats 1000000 in
theorem leaf_any (d e s r : Int) (x : List Int) (id : Int) (w : World) (hk : KonIs w) (he : 0 ≤ e ∧ e < 4294967296) (hs : 0 ≤ s ∧ s < 4294967296) (hx : x.length = 16) (hxb : Bytes x) :
    Calls Tryd.prog 35 #[plV d e s, .int .i64 r, dgV x, .int .i64 id] w fun q w' => q = .returned (dgV (shortL (leafT d e s r x id))) ∧ Below w.heap.size w w' := by
  have HK := Kp.mk hk
  have HE := Kp.mk he
  have HS := Kp.mk hs
  have HX := Kp.mk hx
  have HXB := Kp.mk hxb
  clear hk he hs hx hxb
  go_enter Tryd.func35, Tryd.ntmps35
  go_wp2_with fail
  obtain ⟨A, hA⟩ : ∃ A, A = w.heap.size := ⟨_, rfl⟩
  have HA := Kp.mk hA
  rw [← hA]
  refine wp_world (fun W => Blk W A (.cells #[.int .i64 d, .int .u32 e, .int .u32 s] 51) ∧ Row W (A + 1) 33 .u8 x ∧ Row W (A + 2) 33 .u8 (fill 16 []) ∧ Below A w W) ⟨?_, ?_, ?_, ?_⟩ ?_
  · exact Blk.old (Blk.old (Blk.newAt _ hA) _) _
  · exact Blk.old (Blk.newAt _ (by simp [hA])) _
  · exact Blk.newAt _ (by simp [hA])
  · rw [hA]; exact more (more (more (Below.refl _ _) _) _) _
  rw [show A + 1 + 1 = A + 2 from rfl]
  clear hA
  rintro W ⟨h1, h2, h4, h5⟩
  refine wp_region_pred (fun w' => Blk w' A (.cells #[.int .i64 d, .int .u32 e, .int .u32 s] 51) ∧ Row w' (A + 1) 33 .u8 x ∧ Row w' (A + 2) 33 .u8 (fill 16 []) ∧ Below A w w') [0, 1, 2, 3, 4, 5, 6, 7, 8] [9]
    (fun i w' v => match i with
      | 0 => v = plV d e s
      | 1 => v = .int .i64 r
      | 2 => HoldsB w' w'.heap.size v (placeL d e s r)
      | 3 => v = .slice (some ⟨A + 1, 0, none⟩) 16 16
      | 4 => v = .int .i64 id
      | 5 => v = .int .u8 (id % 256)
      | 6 => HoldsB w' w'.heap.size v [id % 256]
      | 7 => HoldsP w' v [placeL d e s r, x, [id % 256]]
      | _ => v = dgV (shortL (leafT d e s r x id)))
    [[], [], [(0, some 9), (1, some 10)], [], [], [(4, some 13)], [(5, some 14)], [(2, some 11), (3, some 12), (6, some 15)], [(2, some 11), (7, some 16)]] [(0, some 9), (1, some 10), (2, some 11), (3, some 12), (4, some 13), (5, some 14), (6, some 15), (7, some 16), (8, some 17)]
    (by kernel_rfl) (by kernel_rfl) (by kernel_rfl) (by kernel_rfl) (by kernel_rfl) (by kernel_rfl) (by decide) (by decide) (fun w1 w2 h hb => ⟨h.1.keep hb, h.2.1.keep hb, h.2.2.1.keep hb, h.2.2.2.trans (hb.mono (Nat.le_of_lt h.1.lt))⟩) ?_ ⟨h1.draw, h2.drew, h4.drew, h5.drew⟩ ?_ ?_
  · intro i w1 w2 v h hb
    match i, h with
    | 0, h => exact h
    | 1, h => exact h
    | 2, h => exact (HoldsB.keep h hb).mono hb.size
    | 3, h => exact h
    | 4, h => exact h
    | 5, h => exact h
    | 6, h => exact (HoldsB.keep h hb).mono hb.size
    | 7, h => exact HoldsP.keep h hb
    | _ + 8, h => exact h
  · refine ⟨fun γ wx hS h => ⟨_, rfl, Or.inl ⟨rfl, ?_⟩⟩, fun γ wx hS h => ⟨_, rfl, Or.inl ⟨rfl, ?_⟩⟩, fun γ wx hS h => ⟨_, rfl, Or.inl ⟨rfl, ?_⟩⟩, fun γ wx hS h => ⟨_, rfl, Or.inl ⟨rfl, ?_⟩⟩, fun γ wx hS h => ⟨_, rfl, Or.inl ⟨rfl, ?_⟩⟩, fun γ wx hS h => ⟨_, rfl, Or.inl ⟨rfl, ?_⟩⟩, fun γ wx hS h => ⟨_, rfl, Or.inl ⟨rfl, ?_⟩⟩, fun γ wx hS h => ⟨_, rfl, Or.inl ⟨rfl, ?_⟩⟩, fun γ wx hS h => ⟨_, rfl, Or.inl ⟨rfl, ?_⟩⟩, trivial⟩
    · exact predRun_value (exec_load_blk 51 (.tmp 4) rfl A rfl 51 _ (0, 0) _ hS.1 Tryd.underlying51 rfl (cells51 d e s)) rfl
    · exact predRun_value rfl rfl
    · obtain ⟨h0, h1⟩ := h
      refine predRun_call (f := 97) (args := #[γ 0, γ 1]) (by simp only [putE]; go_simp) ?_
      rw [show γ 0 = plV d e s from h0, show γ 1 = .int .i64 r from h1]
      exact withRung_any d e s r wx HE.out HS.out
    · exact predRun_value (v := .slice (some ⟨A + 1, 0, none⟩) 16 16) (by simp only [putE]; have hs := slice50_all; go_simp) rfl
    · exact predRun_value rfl rfl
    · have h4' : γ 4 = .int .i64 id := h
      exact predRun_value (v := .int .u8 (id % 256)) (by simp only [putE, h4']; go_simp; exact IntKind.wrap_u8' _) rfl
    · have h5' : γ 5 = .int .u8 (id % 256) := h
      exact predRun_new (w' := wx.alloc (.cells #[.int .u8 (id % 256)] 5)) (v := .slice (some ⟨wx.heap.size, 0, none⟩) 1 1) (by simp only [putE, h5']; go_simp) (more (Below.refl _ _) _) (one_holds wx _ (by omega))
    · obtain ⟨h2, h3, h6⟩ := h
      have h3' : γ 3 = .slice (some ⟨A + 1, 0, none⟩) 16 16 := h3
      have h2' : HoldsB wx wx.heap.size (γ 2) (placeL d e s r) := h2
      have h6' : HoldsB wx wx.heap.size (γ 6) [id % 256] := h6
      obtain ⟨a, n, c, e2, _⟩ := h2'.slice
      rw [e2] at h2'
      obtain ⟨a6, n6, c6, e6, _⟩ := h6'.slice
      rw [e6] at h6'
      refine predRun_new (w' := wx.alloc (.cells #[.slice a n c, .slice (some ⟨A + 1, 0, none⟩) 16 16, .slice a6 n6 c6] 22)) (v := .slice (some ⟨wx.heap.size, 0, none⟩) 3 3) (by simp only [putE, e2, h3', e6]; go_simp) (more (Below.refl _ _) _) ?_
      exact holdsP_three h2' (hold16 hS.2.1 HX.out HXB.out) h6'
    · obtain ⟨_, h7⟩ := h
      have h7' : HoldsP wx (γ 7) [placeL d e s r, x, [id % 256]] := h7
      obtain ⟨a, n, c, e7, _⟩ := h7'.slice
      rw [e7] at h7'
      refine predRun_call (f := 24) (args := #[.int .u8 76, γ 7]) (by simp only [putE]; go_simp) ?_
      rw [e7]
      refine (short_any 76 a n c _ wx (HK.out.keep (by rw [← HA.out]; exact hS.2.2.2)) (by omega) h7' (by simp [placeL_len, HX.out])).mono ?_
      rintro q w2 ⟨rfl, hb⟩
      exact ⟨_, rfl, congrArg (fun t => dgV (shortL t)) (leafT_flat d e s r x id), hb⟩
  · intro γ w9 hS h
    have h8 : γ 8 = dgV (shortL (leafT d e s r x id)) := h.2.2.2.2.2.2.2.2
    obtain ⟨z, hz⟩ : ∃ z, z = shortL (leafT d e s r x id) := ⟨_, rfl⟩
    have HD := Kp.mk (shortL_len (leafT d e s r x id))
    rw [← hz] at h8 HD
    have HC := Kp.mk (cells50 HD.out)
    have HZ := Kp.mk (size50 HD.out)
    have HF := Kp.mk (hS.2.2.1.setRow z)
    have HBf := Kp.mk (Below.row hS.2.2.2 (g := A + 2) (by omega) (kv .u8 z).toArray)
    simp only [putE, Act.put, List.setIfInBounds_toArray, List.set_cons_zero, List.set_cons_succ]
    rw [h8]
    refine wpOps_step rfl rfl ?_
    refine wp_store_row 33 (.tmp 8) (.tmp 17) rfl (A + 2) (kv .u8 z).toArray rfl rfl 33 _ hS.2.2.1 HC.out HZ.out (kv_all _ _) ?_
    refine wpOps_done ?_
    have HK9 := Kp.mk hz
    clear h hS h8 hz
    go_wp2_with fail
    refine bodyPost_ret (v := dgV z) ?_ rfl ⟨by rw [HK9.out], by rw [← HA.out]; exact HBf.out⟩
    exact results_cell_row rfl _ _ (A + 2) 33 _ (0, 0) _ rfl HF.out Tryd.underlying33 rfl HC.out
end Go.Proofs.YtahmioiefmheeaaDoor

namespace Go.Proofs.YtahmioiefmheeaaDoor
open Go.RowKit

theorem info22 : (Tryd.prog.info? 22).map (fun i => (i.zero, i.size, i.bytes)) = some (some (.slice none 0 0), 1, 24) := by kernel_rfl
/-- The slice v shows texts: its row lies below N, their bytes below M. -/
def TextsAt (w : World) (N M : Nat) (v : Value) (ts : List (List Int)) : Prop :=
  ∃ a cap, v = .slice a ts.length cap ∧ ∀ i, i < ts.length → ∃ b off a1 n1 c1, a = some ⟨b, off, none⟩ ∧ b < N ∧ b < w.heap.size ∧ w.cell? ⟨b, off + i, none⟩ = some (.slice a1 n1 c1) ∧ HoldsB w M (.slice a1 n1 c1) (ts.getD i [])
theorem HoldsP.texts {w : World} {v : Value} {ts : List (List Int)} (h : HoldsP w v ts) : TextsAt w w.heap.size w.heap.size v ts := by
  obtain ⟨a, cap, e, _, h3⟩ := h
  refine ⟨a, cap, e, fun i hi => ?_⟩
  obtain ⟨b, off, a1, n1, c1, e1, e2, e3, e4⟩ := h3 i hi
  exact ⟨b, off, a1, n1, c1, e1, e2, e2, e3, e4⟩
theorem HoldsB.upto {w w' : World} {M B : Nat} {v : Value} {l : List Int} (h : HoldsB w M v l) (hb : Below B w w') (hM : M ≤ B) : HoldsB w' M v l := h.frame hb.size fun k hk _ => hb.block k (by omega)
theorem TextsAt.upto {w w' : World} {N M B : Nat} {v : Value} {ts : List (List Int)} (h : TextsAt w N M v ts) (hb : Below B w w') (hN : N ≤ B) (hM : M ≤ B) : TextsAt w' N M v ts := by
  obtain ⟨a, cap, e, h3⟩ := h
  refine ⟨a, cap, e, fun i hi => ?_⟩
  obtain ⟨b, off, a1, n1, c1, e1, e2, e3, e4, e5⟩ := h3 i hi
  exact ⟨b, off, a1, n1, c1, e1, e2, Nat.lt_of_lt_of_le e3 hb.size, (World.cell?_of_block (w := w) (a := ⟨b, off + i, none⟩) (hb.block b (by omega))).trans e4, e5.upto hb hM⟩
theorem TextsAt.mono {w : World} {N M N' M' : Nat} {v : Value} {ts : List (List Int)} (h : TextsAt w N M v ts) (hN : N ≤ N') (hM : M ≤ M') : TextsAt w N' M' v ts := by
  obtain ⟨a, cap, e, h3⟩ := h
  refine ⟨a, cap, e, fun i hi => ?_⟩
  obtain ⟨b, off, a1, n1, c1, e1, e2, e3, e4, e5⟩ := h3 i hi
  exact ⟨b, off, a1, n1, c1, e1, by omega, e3, e4, e5.mono hM⟩
/-- A row of texts that the call made. -/
def RowT (w : World) (base M : Nat) (v : Value) (ts : List (List Int)) : Prop :=
  ∃ vs : List Value, w.ownsRow base 22 1 v ts.length vs ∧ vs.length = ts.length ∧ ∀ i, i < ts.length → ∃ a n c, vs[i]? = some (.slice a n c) ∧ HoldsB w M (.slice a n c) (ts.getD i [])
theorem RowT.nil (w : World) (base M : Nat) : RowT w base M (.slice none 0 0) [] := ⟨[], World.ownsRow_nil _ _ _ _, rfl, fun i hi => by simp at hi⟩
theorem RowT.below {w w' : World} {base M : Nat} {v : Value} {ts : List (List Int)} (h : RowT w base M v ts) (hb : Below w.heap.size w w') : RowT w' base M v ts := by
  obtain ⟨vs, h1, h2, h3⟩ := h
  refine ⟨vs, ownsRow_below h1 hb, h2, fun i hi => ?_⟩
  obtain ⟨a, n, c, e, hh⟩ := h3 i hi
  exact ⟨a, n, c, e, hh.keep hb⟩
theorem RowT.slice {w : World} {base M : Nat} {v : Value} {ts : List (List Int)} (h : RowT w base M v ts) : ∃ a c, v = .slice a ts.length c := by
  obtain ⟨vs, h1, _, _⟩ := h
  rcases h1.2 with ⟨rfl, hn⟩ | ⟨g, cap, cur, rfl, _⟩
  · rw [hn]; exact ⟨_, _, rfl⟩
  · exact ⟨_, _, rfl⟩
/-- Such a row shows its texts. -/
theorem RowT.holds {w : World} {base M : Nat} {v : Value} {ts : List (List Int)} (h : RowT w base M v ts) (hM : M ≤ w.heap.size) : HoldsP w v ts := by
  obtain ⟨vs, h1, h2, h3⟩ := h
  rcases h1.2 with ⟨rfl, hn⟩ | ⟨g, cap, cur, rfl, hb, hg, hle, hcap, hsz, ht⟩
  · have : ts = [] := List.length_eq_zero_iff.1 hn
    subst this
    exact ⟨none, 0, rfl, by unfold maxLen; simp, fun i hi => by simp at hi⟩
  · refine ⟨_, cap, rfl, by omega, fun i hi => ?_⟩
    obtain ⟨a, n, c, e, hh⟩ := h3 i hi
    refine ⟨g, 0, a, n, c, rfl, (Array.getElem?_eq_some_iff.1 hg).1, ?_, hh.mono hM⟩
    rw [cell_of_row w g (0 + i) cur 22 (0, 0) hg, Nat.zero_add, ← Array.getElem?_toList, ← e, ← ht, List.getElem?_take, if_pos (by omega)]
/-- The values of a row that shows texts. -/
theorem TextsAt.vals {w : World} {N M : Nat} {v : Value} {ts : List (List Int)} (h : TextsAt w N M v ts) (h0 : 0 < ts.length) :
    ∃ ad c, ∃ vs : List Value, v = .slice (some ad) ts.length c ∧ vs.length = ts.length ∧ (∀ j u, vs[j]? = some u → w.cell? (ad.add j) = some u) ∧ (∀ u ∈ vs, u.oneCell' = true) ∧
      ∀ i, i < ts.length → ∃ a n c, vs[i]? = some (.slice a n c) ∧ HoldsB w M (.slice a n c) (ts.getD i []) := by
  obtain ⟨a, cap, rfl, h3⟩ := h
  obtain ⟨b, off, _, _, _, e0, _⟩ := h3 0 h0
  subst e0
  have each : ∀ i, i < ts.length → ∃ a1 n1 c1, w.cell? ⟨b, off + i, none⟩ = some (.slice a1 n1 c1) ∧ HoldsB w M (.slice a1 n1 c1) (ts.getD i []) := fun i hi => by
    obtain ⟨b', off', a1, n1, c1, e, _, _, hc, hh⟩ := h3 i hi
    simp only [Option.some.injEq, Addr.mk.injEq, and_true] at e
    obtain ⟨rfl, rfl⟩ := e
    exact ⟨a1, n1, c1, hc, hh⟩
  obtain ⟨f, hf⟩ : ∃ f : Nat → Value, ∀ i, i < ts.length → (∃ a1 n1 c1, f i = .slice a1 n1 c1 ∧ HoldsB w M (.slice a1 n1 c1) (ts.getD i [])) ∧ w.cell? ⟨b, off + i, none⟩ = some (f i) := by
    refine ⟨fun i => (w.cell? ⟨b, off + i, none⟩).getD undef, fun i hi => ?_⟩
    obtain ⟨a1, n1, c1, hc, hh⟩ := each i hi
    simp only [hc, Option.getD_some]
    exact ⟨⟨a1, n1, c1, rfl, hh⟩, trivial⟩
  refine ⟨⟨b, off, none⟩, cap, (List.range ts.length).map f, rfl, by simp, fun j u hu => ?_, fun u hu => ?_, fun i hi => ?_⟩
  · have e : (⟨b, off, none⟩ : Addr).add j = ⟨b, off + j, none⟩ := by unfold Addr.add; split <;> simp_all
    rw [e]
    by_cases hj : j < ts.length
    · rw [List.getElem?_map, List.getElem?_range hj] at hu
      rw [(hf j hj).2]
      exact hu
    · rw [List.getElem?_eq_none (by simp; omega)] at hu
      cases hu
  · obtain ⟨i, hi, rfl⟩ := List.mem_map.1 hu
    obtain ⟨⟨a1, n1, c1, e, _⟩, _⟩ := hf i (List.mem_range.1 hi)
    rw [e]
    rfl
  · obtain ⟨⟨a1, n1, c1, e, hh⟩, _⟩ := hf i hi
    exact ⟨a1, n1, c1, by rw [List.getElem?_map, List.getElem?_range hi]; exact congrArg some e, hh⟩
/-- append of texts that stand somewhere, to a row of the call's own. -/
theorem wpList_append_texts {w : World} {ops : Array Oper} {rest : List Oper} {o : Oper} {a : Act} {Q : Exit → Act → World → Prop} (hgd : o.guard = none) (s x : Operand)
    (ho : o.op = .call { callee := .builtin .append, args := #[s, x], argTypes := #[31, 31] })
    (base N M : Nat) (v : Value) (ts us : List (List Int)) (hs : a.eval s = v) (hown : RowT w base M v ts) (hM : M ≤ base) (u : Value) (hx : a.eval x = u) (hp : TextsAt w N M u us) (h0 : 0 < us.length) (h63 : ts.length + us.length ≤ 1000000) (hbase : base ≤ w.heap.size)
    (h : ∀ v' w', RowT w' base M v' (ts ++ us) → Below base w w' → wpList Tryd.prog ops Q rest (a.put o.dst v') w') : wpList Tryd.prog ops Q (o :: rest) a w := by
  obtain ⟨i0, hi, hz0, hz1, hz2⟩ := info_parts info22
  obtain ⟨vs, h1, h2, h3⟩ := hown
  obtain ⟨ad, c, ws, rfl, k1, k2, k3, k4⟩ := hp.vals h0
  refine wpList_append_own w hgd s x 31 ho base 22 i0 (.slice none 0 0) 1 24 Tryd.underlying31 hi hz0 hz1 hz2 rfl (by decide) v ts.length vs hs h1 ad us.length c ws hx (by rw [k1]; omega) k2 k3 (by unfold maxLen; omega) (by omega) hbase fun v' w' r1 r2 _ => ?_
  have hb : Below base w w' := below_row_grown (Below.refl _ _) hbase h1 r2
  refine h v' w' ⟨vs ++ ws, by rw [List.length_append]; exact r1, by simp [h2, k1], fun i hi => ?_⟩ hb
  rw [List.length_append] at hi
  by_cases hlt : i < ts.length
  · obtain ⟨a1, n1, c1, e, hh⟩ := h3 i hlt
    refine ⟨a1, n1, c1, by rw [List.getElem?_append_left (by omega)]; exact e, ?_⟩
    have hg : (ts ++ us).getD i [] = ts.getD i [] := by rw [List.getD_eq_getElem?_getD, List.getD_eq_getElem?_getD, List.getElem?_append_left hlt]
    rw [hg]
    exact hh.upto hb hM
  · obtain ⟨a1, n1, c1, e, hh⟩ := k4 (i - ts.length) (by omega)
    refine ⟨a1, n1, c1, by rw [List.getElem?_append_right (by omega), h2]; exact e, ?_⟩
    have hg : (ts ++ us).getD i [] = us.getD (i - ts.length) [] := by rw [List.getD_eq_getElem?_getD, List.getD_eq_getElem?_getD, List.getElem?_append_right (by omega)]
    rw [hg]
    exact hh.upto hb hM
end Go.Proofs.YtahmioiefmheeaaDoor
