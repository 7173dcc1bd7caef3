/-
  The document's Seal.
-/
import Derived.Test.YtgabjmmmiogfjaaDoorFrD
namespace Go.Proofs.YtgabjmmmiogfjaaDoor
open Go.RowKit

theorem info22s : (Tryd.prog.info? 22).map (·.size) = some 32 := by kernel_rfl
theorem cells22 {l : List Int} (h : l.length = 32) : (Tryd.prog.info? 22).map (·.size) = some (kv .u8 l).toArray.size := by rw [info22s, kv_size, h]
theorem infoz40 : (Tryd.prog.info? 40).map (fun i => (i.zero, i.size)) = some (some (.agg (kv .u8 (fill 16 [])).toArray), 16) := by kernel_rfl
theorem info40s : (Tryd.prog.info? 40).map (·.size) = some 16 := by kernel_rfl
theorem cells40 {l : List Int} (h : l.length = 16) : (Tryd.prog.info? 40).map (·.size) = some (kv .u8 l).toArray.size := by rw [info40s, kv_size, h]
set_option maxRecDepth 100000 in
theorem slice40_all (b : Nat) (w : World) : (Instr.sliceAt 40 (.pointer (some ⟨b, 0, none⟩)) none none none).run Tryd.prog w = .ok (.slice (some ⟨b, 0, none⟩) 16 16) w := by
  have hl : Tryd.prog.arrayLen 40 = 16 := by kernel_rfl
  have he : Tryd.prog.elem 40 = 5 := by kernel_rfl
  rw [run_sliceAt_array_all (ht := Tryd.underlying40), hl, he, size5]
  rfl
set_option maxRecDepth 100000 in
theorem slice22_all (b : Nat) (w : World) : (Instr.sliceAt 22 (.pointer (some ⟨b, 0, none⟩)) none none none).run Tryd.prog w = .ok (.slice (some ⟨b, 0, none⟩) 32 32) w := by
  have hl : Tryd.prog.arrayLen 22 = 32 := by kernel_rfl
  have he : Tryd.prog.elem 22 = 5 := by kernel_rfl
  rw [run_sliceAt_array_all (ht := Tryd.underlying22), hl, he, size5]
  rfl
theorem mid_facts {w w5 w6 : World} {K G E : Nat} {T : List Int} (hE : E = w5.heap.size) (h1 : Row w5 G 40 .u8 T) (h2 : Below K w w5) (hK : K ≤ w5.heap.size) (hg0 : (w5.alloc (.cells #[] 5)).drew.grownBy w6 (some w5.heap.size)) : Hid (Row w6 G 40 .u8 T ∧ Below K w w6 ∧ E ≤ w6.heap.size) := by
  unfold Hid
  have hg : (w5.alloc (.cells #[] 5)).grownBy w6 (some w5.heap.size) := ⟨hg0.os, hg0.tape, hg0.output, hg0.size, hg0.block⟩
  have hlt : G < w5.heap.size := Blk.lt h1
  have hs := hg.size
  simp only [World.size_alloc] at hs
  refine ⟨(hg.block G (by simp; omega) (by simp; omega)).trans (Blk.old h1 _), (h2.alloc hK _).grown hg (by simp; omega) (fun k hk => ?_), by omega⟩
  simp at hk
  omega
theorem info26s : (Tryd.prog.info? 26).map (·.size) = some 6 := by kernel_rfl
set_option maxRecDepth 100000 in
set_option maxHeartbeats 2000000 in
theorem rseal_bad (key : List Int) (p : FV) (w : World) (hkey : key.length = 32) (h : frB p = false) :
    Calls Tryd.prog 10 #[dgV key, p.v] w fun r w' => r = .returned (.tuple #[.slice none 0 0, .int .i64 1]) ∧ Below w.heap.size w w' := by
  have hC := fun (w : World) => box_row (t := 22) (cs := kv .u8 key) (cells22 hkey) w
  obtain ⟨K, hK⟩ : ∃ K, K = w.heap.size := ⟨_, rfl⟩
  have HK := Kp.mk hK
  clear hK hkey
  go_enter Tryd.func10, Tryd.ntmps10
  go_wp2_with (refine wpList_box_eq rfl 22 (.tmp 0) rfl _ rfl _ _ (hC _) ?_; rw [← HK.out]; refine wpl_world (fun w2 => Below K w w2 ∧ K + 1 = w2.heap.size) ⟨by rw [HK.out]; exact more (Below.refl _ _) _, by simp [HK.out]⟩ ?_; rintro W1 ⟨h1, h2⟩; have K1 := Kp.mk h1; have K2 := Kp.mk h2; clear h1 h2)
  refine (rright_any p _).mono ?_
  rintro r w1 ⟨rfl, hb⟩
  have HB1 : Kp (Below K w w1) := ⟨(K1.out.alloc (by have := K2.out; omega) _).trans (hb.mono (by have := K2.out; simp; omega))⟩
  clear hb
  rw [h]
  go_wp2_with fail
  exact bodyPost_ret (results_tmp2 rfl _ _ _ _) rfl ⟨rfl, by rw [← HK.out]; exact HB1.out⟩
set_option maxRecDepth 100000 in
set_option maxHeartbeats 4000000 in
theorem rseal_good (key : List Int) (p : FV) (tp : List Int) (w : World) (hkey : key.length = 32 ∧ Bytes key) (h : HoldsB w w.heap.size (.slice p.a p.n p.c) tp) (hr : frB p = true) (hid : BigP p) :
    Calls Tryd.prog 10 #[dgV key, p.v] w fun r w' => ∃ v, r = .returned (.tuple #[v, .int .i64 0]) ∧ HoldsB w' w'.heap.size v (sealM key p tp) ∧ Below w.heap.size w w' := by
  have hC := fun (w : World) => box_row (t := 22) (cs := kv .u8 key) (cells22 hkey.1) w
  obtain ⟨K, hK⟩ : ∃ K, K = w.heap.size := ⟨_, rfl⟩
  have HK := Kp.mk hK
  have HKEY := Kp.mk hkey
  have H := Kp.mk h
  have HR := Kp.mk hr
  have HID := Kp.mk hid
  obtain ⟨i0, hi, hz0, hz1, hz2⟩ := info_parts info5
  have hn : p.n = tp.length := by
    obtain ⟨a1, n1, c1, e1, e2⟩ := h.slice
    simp only [Value.slice.injEq] at e1
    omega
  have HNT : Kp (tp.length ≤ 4096) := ⟨by rw [← hn]; exact (frB_is hr).2.2.2.2.2.2.2⟩
  have hs22 := slice22_all K
  clear hK hkey h hr hid hn
  go_enter Tryd.func10, Tryd.ntmps10
  go_wp2_with (refine wpList_box_eq rfl 22 (.tmp 0) rfl _ rfl _ _ (hC _) ?_; rw [← HK.out]; refine wpl_world (fun w2 => Row w2 K 22 .u8 key ∧ Below K w w2 ∧ K + 1 = w2.heap.size) ⟨Blk.newAt _ HK.out, by rw [HK.out]; exact more (Below.refl _ _) _, by simp [HK.out]⟩ ?_; rintro W1 ⟨h0, h1, h2⟩; have K0 := Kp.mk h0; have K1 := Kp.mk h1; have K2 := Kp.mk h2; clear h0 h1 h2)
  clear hC
  refine (rright_any p _).mono ?_
  rintro r w1 ⟨rfl, hb⟩
  rw [HR.out]
  have Q0 : Kp (Row w1 K 22 .u8 key) := ⟨(K0.out.alloc _).keep hb⟩
  have Q1 : Kp (Blk w1 (K + 1) (p.box 26)) := ⟨(Blk.newAt _ K2.out).keep hb⟩
  have Q2 : Kp (Below K w w1) := ⟨(K1.out.alloc (by have := K2.out; omega) _).trans (hb.mono (by have := K2.out; simp; omega))⟩
  rw [← K2.out]
  clear hb K0 K1
  go_wp2_with (refine wpList_load_row rfl 26 (.tmp 3) rfl (K + 1) rfl 26 #[.int .i64 p.fr, .int .i64 p.to, .int .u64 p.bo, .int .u64 p.co, .int .i64 p.ki, .slice p.a p.n p.c] (0, 0) _ Q1.out Tryd.underlying26 rfl info26s ?_)
  refine (rbytes_any p tp w1 ((H.out.frame Q2.out.size (fun k hk _ => Q2.out.block k (by rw [HK.out]; exact hk))).mono (by have := Q2.out.size; exact this)) HR.out HID.out).mono ?_
  rintro r w2 ⟨v2, rfl, ho, hb⟩
  have R0 : Kp (Row w2 K 22 .u8 key) := ⟨Q0.out.keep hb⟩
  have R2 : Kp (Below K w w2) := ⟨Q2.out.trans (hb.mono (by rw [HK.out]; exact Q2.out.size))⟩
  obtain ⟨L, hL⟩ : ∃ L, L = laidM p tp := ⟨_, rfl⟩
  have HLE := Kp.mk hL
  have HLN : Kp (22 ≤ L.length ∧ L.length ≤ 5000) := ⟨by rw [hL, laidM_len]; have := HNT.out; omega⟩
  rw [← hL] at ho
  have RO := Kp.mk ho
  clear ho hb hL Q0 Q1 Q2
  obtain ⟨ad, n2, c2, rfl, hn2⟩ := RO.out.slice
  cases ad with
  | none =>
    exfalso
    obtain ⟨a', cap', h1, h2, h3, h4, h5, h6, h7⟩ := RO.out
    simp only [Value.slice.injEq] at h1
    obtain ⟨rfl, rfl, rfl⟩ := h1
    have := h4 rfl
    have := HLN.out
    omega
  | some ad =>
  have HN2 := Kp.mk hn2
  clear hn2
  go_wp2_with fail
  have hkh : HoldsB w2 w2.heap.size (.slice (some ⟨K, 0, none⟩) 32 32) key := by
    have := HoldsB.ofBytes R0.out HKEY.out.2 (by rw [HKEY.out.1]; decide)
    rw [HKEY.out.1] at this
    exact this
  refine (rtag_any w2.heap.size w2.heap.size _ _ key L w2 hkh RO.out (by rw [HKEY.out.1]; decide) (by have := HLN.out; omega)).mono ?_
  rintro r w3 ⟨rfl, hb⟩
  have S2 : Kp (Below K w w3) := ⟨R2.out.trans (hb.mono (by rw [HK.out]; exact R2.out.size))⟩
  have SO : Kp (HoldsB w3 w2.heap.size (.slice (some ad) n2 c2) L) := ⟨RO.out.keep hb⟩
  have HSZ : Kp (w2.heap.size ≤ w3.heap.size) := ⟨hb.size⟩
  clear hb R0 hkh RO
  obtain ⟨T, hT⟩ : ∃ T, T = tagM key L := ⟨_, rfl⟩
  have HT : Kp (T.length = 16 ∧ Bytes T) := ⟨by rw [hT]; exact ⟨tagM_len _ _, tagM_bytes _ _⟩⟩
  have HTE := Kp.mk hT
  rw [show halfL (macL key L) = T from hT.symm]
  clear hT
  obtain ⟨G, hG⟩ : ∃ G, G = w3.heap.size := ⟨_, rfl⟩
  have HG := Kp.mk hG
  have hs40 := slice40_all G
  clear hG
  go_wp2_with (first
    | (refine wpList_alloc_row rfl 40 rfl _ _ infoz40 ?_; rw [← HG.out]; refine wpl_world (w := w3.alloc (.cells (kv .u8 (fill 16 [])).toArray 40)) (fun w4 => Row w4 G 40 .u8 (fill 16 []) ∧ Below K w w4 ∧ HoldsB w4 w2.heap.size (.slice (some ad) n2 c2) L) ⟨Blk.newAt _ HG.out, S2.out.alloc (by rw [HK.out]; exact S2.out.size) _, SO.out.alloc _⟩ ?_; rintro w4 h1; have H4 := Kp.mk h1; clear h1)
    | (refine wpList_store_row rfl 40 (.tmp 7) (.tmp 15) rfl G (kv .u8 T).toArray rfl rfl 40 _ H4.out.1 (cells40 HT.out.1) (size83 HT.out.1) (kv_all _ _) ?_; refine wpl_world (w := w4.setRow G (kv .u8 T).toArray) (fun w5 => Row w5 G 40 .u8 T ∧ Below K w w5 ∧ HoldsB w5 w2.heap.size (.slice (some ad) n2 c2) L) ⟨H4.out.1.setRow T, Below.row H4.out.2.1 (by rw [HG.out, HK.out]; exact S2.out.size) _, H4.out.2.2.turn (Turn.ofRow H4.out.1 _) (by rw [HG.out]; exact HSZ.out)⟩ ?_; rintro w5 h1; have H5 := Kp.mk h1; clear h1))
  obtain ⟨E, hE⟩ : ∃ E, E = w5.heap.size := ⟨_, rfl⟩
  have HE := Kp.mk hE
  clear hE
  go_region_law (first
    | (refine step_append_own rfl (.tmp 16) (.tmp 17) 24 rfl E 5 i0 (.int .u8 0) 1 1 Tryd.underlying24 hi hz0 hz1 hz2 rfl (by decide) _ _ _ (by simp [Act.eval, Act.put]) (World.ownsRow_made w5 #[] 0 (by rw [HE.out]; exact Nat.le_refl _) (by decide) rfl) ad n2 c2 (bv L) (by simp [Act.eval, Act.put]) (by rw [bv_len, HN2.out]) (H5.out.2.2.alloc (.cells #[] 5)).drew.news (bv_one _) (by have := HLN.out; have := HN2.out; unfold maxLen; omega) (by have := HLN.out; have := HN2.out; omega) (by rw [HE.out]; simp) ?_; intro v6 w6 ho6 hg6; have hG6 : Hid (Row w6 G 40 .u8 T ∧ Below K w w6 ∧ E ≤ w6.heap.size) := mid_facts HE.out H5.out.1 H5.out.2.1 (by rw [HK.out]; exact H5.out.2.1.size) hg6.out)
    | (refine step_append_own rfl (.tmp 18) (.tmp 19) 24 rfl E 5 i0 (.int .u8 0) 1 1 Tryd.underlying24 hi hz0 hz1 hz2 rfl (by decide) _ _ _ (by simp [Act.eval, Act.put]) ho6.out ⟨G, 0, none⟩ 16 16 (bv T) (by simp [Act.eval, Act.put]) (by rw [bv_len, HT.out.1]) (HoldsB.ofBytes hG6.out.1 HT.out.2 (by rw [HT.out.1]; decide)).news (bv_one _) (by have := HLN.out; have := HN2.out; unfold maxLen; omega) (by have := HLN.out; have := HN2.out; omega) hG6.out.2.2 ?_; intro v7 w7 ho7 hg7; have HO7 := Kp.mk ho7.out; have HB7 : Kp (Below K w w7) := ⟨below_row_grown hG6.out.2.1 (by rw [HK.out]; exact hG6.out.2.1.size) (ownsRow_base ho6.out (by rw [HE.out, HK.out]; exact H5.out.2.1.size)) hg7.out⟩))
  all_goals
    go_wp2_with fail
    refine bodyPost_ret (results_tmp2 rfl _ _ _ _) rfl ⟨v7, rfl, ?_, by rw [← HK.out]; exact HB7.out⟩
    have h9 := HO7.out
    have hb9 : Bytes (L ++ T) := (H5.out.2.2.bytes).append HT.out.2
    unfold sealM
    rw [← HLE.out, ← HTE.out]
    refine HoldsB.ofRow (base := E) hb9 ?_
    rw [show bv (L ++ T) = bv L ++ bv T from List.map_append, List.length_append, HT.out.1]
    simpa [HN2.out] using h9
end Go.Proofs.YtgabjmmmiogfjaaDoor
