/-
  mac.keyBlock.
  mac.Mac.
  mac.half, mac.Tag.
  mac.Tag, the document's Half.
  mac.Short.
  The words of a block, as the document's answer makes them: plain lists.
-/
import Derived.Test.YtpljjmdkagbjpaaDoorOd03
import Derived.Laws.CopyOwn
namespace Go.Proofs.YtpljjmdkagbjpaaDoor
open Go.RowKit

theorem slice75_block (b : Nat) (w : World) : (Instr.sliceAt 143 (.pointer (some ⟨b, 0, none⟩)) none none none).run Tryd.prog w = .ok (.slice (some ⟨b, 0, none⟩) 64 64) w := slice75_whole b w
theorem keyb_small {k : List Int} (h : k.length ≤ 64) : keyb k = fill 64 k := by unfold keyb; rw [if_neg (by omega)]
theorem keyb_big {k : List Int} (h : 64 < k.length) : keyb k = fill 64 (digest k) := by unfold keyb; rw [if_pos h]
theorem splice_key (p : List Int) : splice (kv .u8 (fill 64 [])) 0 (kv .u8 p) = kv .u8 (fill 64 p) := by
  unfold splice fill kv
  simp only [List.nil_append, List.take_zero, List.map_append, List.map_replicate, List.length_map, List.length_nil, Nat.zero_add, List.drop_replicate, Nat.sub_zero]
theorem HoldsB.cells {w : World} {M : Nat} {a : Option Addr} {n cap : Nat} {l : List Int} (h : HoldsB w M (.slice a n cap) l) (h0 : 0 < (kv .u8 l).length) : ∃ ad, a = some ad ∧ ∀ j u, (kv .u8 l)[j]? = some u → w.cell? (ad.add j) = some u := h.source h0
set_option maxRecDepth 100000 in
set_option maxHeartbeats 1000000 in
theorem keyBlock_any (M : Nat) (v : Value) (k : List Int) (w : World) (hk : KonIs w) (hp : HoldsB w M v k) (hlen : k.length ≤ 999999999999000) :
    Calls Tryd.prog 106 #[v] w fun r w' => r = .returned (.agg (kv .u8 (keyb k)).toArray) ∧ Below w.heap.size w w' := by
  obtain ⟨a0, n, cap, rfl, hn⟩ := hp.slice
  have HK := Kp.mk hk
  have HP := Kp.mk hp
  have HN := Kp.mk hn
  have HN2 := Kp.mk hlen
  have hnm : n ≤ 999999999999000 := by omega
  have HC75 := Kp.mk (cells75 (keyb_len k))
  have HZ75 : Kp ((kv .u8 (fill 64 [])).toArray.size = (kv .u8 (keyb k)).toArray.size) := ⟨size75 (keyb_len k)⟩
  obtain ⟨A, hA⟩ : ∃ A, A = w.heap.size := ⟨_, rfl⟩
  have HA := Kp.mk hA
  clear hk hp hlen
  by_cases hbig : 64 < n
  · have HBIG : Kp (keyb k = fill 64 (digest k)) := ⟨keyb_big (by omega)⟩
    have HDL := Kp.mk (digest_len k)
    have HDB := Kp.mk (digest_bytes k)
    have HCD := Kp.mk (cells25 (digest_len k))
    have HZD : Kp ((kv .u8 (fill 32 [])).toArray.size = (kv .u8 (digest k)).toArray.size) := ⟨by rw [kv_size, kv_size, digest_len]; rfl⟩
    have hs := slice75_whole
    have hs2 := slice25_all
    clear hn
    go_enter Tryd.func106, Tryd.ntmps106
    go_wp2_with fail
    rw [← hA]
    refine calls_world (fun W => Row W A 143 .u8 (fill 64 []) ∧ Row W (A + 1) 143 .u8 (fill 64 []) ∧ Below w.heap.size w W ∧ A + 1 < W.heap.size) ⟨Row.alloc (Blk.newAt (w := w) z75 hA) _, Blk.newAt (w := w.alloc z75) z75 (by rw [hA]; simp), more (more (Below.refl _ _) z75) z75, by rw [hA]; simp⟩ ?_
    rintro w1 ⟨hr, hr1, hb, hsz⟩
    have HR := Kp.mk hr
    have HR1 := Kp.mk hr1
    have HB := Kp.mk hb
    have HS := Kp.mk hsz
    clear hr hr1 hb hsz hA
    refine (sum_any M _ k w1 (HK.out.keep HB.out) (HP.out.keep HB.out) HN2.out).mono ?_
    rintro r w2 ⟨rfl, h2⟩
    have H2 := Kp.mk h2
    clear h2
    generalize digest k = d at *
    have HSZ2 : Kp (A + 1 < w2.heap.size) := ⟨by have := H2.out.size; have := HS.out; omega⟩
    obtain ⟨W, hW⟩ : ∃ W, W = (w2.alloc z25).setRow w2.heap.size (kv .u8 d).toArray := ⟨_, rfl⟩
    have HB1 : Kp (Row w2 (A + 1) 143 .u8 (fill 64 [])) := ⟨HR1.out.keep H2.out⟩
    have HB0 : Kp (Row w2 A 143 .u8 (fill 64 [])) := ⟨HR.out.keep H2.out⟩
    have HRD : Kp (Row W w2.heap.size 95 .u8 d) := ⟨by rw [hW]; exact Row.setRow (k := .u8) (l := fill 32 []) (Blk.new w2 z25) _⟩
    have HT1 : Kp (Row W (A + 1) 143 .u8 (fill 64 [])) := ⟨by rw [hW]; exact Row.otherRow (Row.alloc HB1.out z25) (by have := HSZ2.out; omega) _⟩
    have HT0 : Kp (Row W A 143 .u8 (fill 64 [])) := ⟨by rw [hW]; exact Row.otherRow (Row.alloc HB0.out z25) (by have := HSZ2.out; omega) _⟩
    have HBW : Kp (Below w.heap.size w W) := ⟨by rw [hW]; exact Below.row (more (HB.out.trans (H2.out.mono HB.out.size)) z25) (by have := HSZ2.out; have := HA.out; omega) _⟩
    have HH : Kp (HoldsB W W.heap.size (.slice (some ⟨w2.heap.size, 0, none⟩) 32 32) d) := ⟨by
      have h := HoldsB.ofBytes HRD.out HDB.out (by rw [HDL.out]; decide)
      rw [HDL.out] at h
      exact h⟩
    go_wp2_with (first
      | (refine wpList_store_row rfl 95 (.tmp 4) (.tmp 9) rfl w2.heap.size (kv .u8 d).toArray rfl rfl 95 _ (Blk.new w2 z25) HCD.out HZD.out (kv_all _ _) ?_; refine wpl_world (· = W) hW.symm ?_; clear hW; intro W0 e; rw [e]; clear e)
      | (refine wpList_copy_turn rfl (.tmp 11) (.tmp 12) 32 32 rfl 5 Tryd.underlying32 info5' _ _ _ _ _ _ rfl rfl (A + 1) 0 (kv .u8 (fill 64 [])) 143 W (Turn.same HT1.out) (kv .u8 d) (by rw [List.length_map, HDL.out]; rfl) (fun h1 => ⟨rfl, HH.out.cells h1⟩) (by rw [List.length_map, List.length_map, HDL.out, fill_len (by simp)]; omega) (kv_one _) ?_))
    intro w3 HT3
    have HR3 : Kp (Row w3 (A + 1) 143 .u8 (keyb k)) := ⟨by rw [HBIG.out]; have h := HT3.out.blk; rw [splice_key] at h; exact h⟩
    have HR0 : Kp (Row w3 A 143 .u8 (fill 64 [])) := ⟨HT3.out.keep HT0.out (by omega)⟩
    have HB3 : Kp (Below w.heap.size w w3) := ⟨HBW.out.trans (HT3.out.below (by have := HA.out; omega) HBW.out.size)⟩
    have HF := Kp.mk (HR0.out.setRow (keyb k))
    have HBf := Kp.mk (Below.row HB3.out (g := A) (by rw [HA.out]; exact Nat.le_refl _) (kv .u8 (keyb k)).toArray)
    clear HT3 hs hs2
    go_wp2_with (first
      | (refine wpList_load_row rfl 143 (.tmp 3) rfl (A + 1) rfl 143 (kv .u8 (keyb k)).toArray (0, 0) _ HR3.out Tryd.underlying143 rfl HC75.out ?_)
      | (refine wpList_store_row rfl 143 (.tmp 2) (.tmp 14) rfl A (kv .u8 (keyb k)).toArray rfl rfl 143 _ HR0.out HC75.out HZ75.out (kv_all _ _) ?_))
    refine bodyPost_ret (v := .agg (kv .u8 (keyb k)).toArray) ?_ rfl ⟨rfl, HBf.out⟩
    exact results_cell_row rfl _ _ A 143 _ (0, 0) _ rfl HF.out Tryd.underlying143 rfl HC75.out
  · have HSM : Kp (keyb k = fill 64 k) := ⟨keyb_small (by omega)⟩
    have hle : n ≤ 64 := by omega
    have hs := slice75_whole
    clear hn hbig
    subst hA
    obtain ⟨W, hW⟩ : ∃ W, W = (w.alloc z75).alloc z75 := ⟨_, rfl⟩
    have HT0 : Kp (Row W w.heap.size 143 .u8 (fill 64 [])) := ⟨by rw [hW]; exact Row.alloc (Blk.newAt (w := w) z75 rfl) _⟩
    have HT1 : Kp (Row W (w.heap.size + 1) 143 .u8 (fill 64 [])) := ⟨by rw [hW]; exact Blk.newAt (w := w.alloc z75) z75 (by simp)⟩
    have HBW : Kp (Below w.heap.size w W) := ⟨by rw [hW]; exact more (more (Below.refl _ _) z75) z75⟩
    have HH := Kp.mk (HP.out.keep HBW.out)
    have HW := Kp.mk hW
    clear hW
    go_enter Tryd.func106, Tryd.ntmps106
    go_wp2_with (refine wpl_world (· = W) HW.out.symm ?_; intro W0 e; rw [e]; clear e; refine wpList_copy_turn rfl (.tmp 11) (.tmp 12) 32 32 rfl 5 Tryd.underlying32 info5' _ _ _ _ _ _ rfl rfl (w.heap.size + 1) 0 (kv .u8 (fill 64 [])) 143 W (Turn.same HT1.out) (kv .u8 k) (by rw [List.length_map, ← HN.out]; exact (Nat.min_eq_left hle).symm) (fun h1 => ⟨rfl, HH.out.cells h1⟩) (by rw [List.length_map, List.length_map, ← HN.out, fill_len (by simp)]; omega) (kv_one _) ?_)
    intro w3 HT3
    have HR3 : Kp (Row w3 (w.heap.size + 1) 143 .u8 (keyb k)) := ⟨by rw [HSM.out]; have h := HT3.out.blk; rw [splice_key] at h; exact h⟩
    have HR0 : Kp (Row w3 w.heap.size 143 .u8 (fill 64 [])) := ⟨HT3.out.keep HT0.out (by omega)⟩
    have HB3 : Kp (Below w.heap.size w w3) := ⟨HBW.out.trans (HT3.out.below (Nat.le_succ _) HBW.out.size)⟩
    have HF := Kp.mk (HR0.out.setRow (keyb k))
    have HBf := Kp.mk (Below.row HB3.out (g := w.heap.size) (Nat.le_refl _) (kv .u8 (keyb k)).toArray)
    clear HT3 hs
    go_wp2_with (first
      | (refine wpList_load_row rfl 143 (.tmp 3) rfl (w.heap.size + 1) rfl 143 (kv .u8 (keyb k)).toArray (0, 0) _ HR3.out Tryd.underlying143 rfl HC75.out ?_)
      | (refine wpList_store_row rfl 143 (.tmp 2) (.tmp 14) rfl w.heap.size (kv .u8 (keyb k)).toArray rfl rfl 143 _ HR0.out HC75.out HZ75.out (kv_all _ _) ?_))
    refine bodyPost_ret (v := .agg (kv .u8 (keyb k)).toArray) ?_ rfl ⟨rfl, HBf.out⟩
    exact results_cell_row rfl _ _ w.heap.size 143 _ (0, 0) _ rfl HF.out Tryd.underlying143 rfl HC75.out
end Go.Proofs.YtpljjmdkagbjpaaDoor

namespace Go.Proofs.YtpljjmdkagbjpaaDoor
open Go.RowKit

theorem below_drew2 {B : Nat} {w w' : World} (h : Below B w.drew w') : Below B w w' := ⟨h.os, h.tape, h.output, h.size, h.block⟩
set_option maxRecDepth 100000 in
set_option maxHeartbeats 2000000 in
theorem mac_any (M N : Nat) (v u : Value) (k p : List Int) (w : World) (hk : KonIs w) (hp : HoldsB w M v k) (hq : HoldsB w N u p) (hlen : k.length ≤ 999999999999000) (hlen2 : p.length ≤ 999999999990000) :
    Calls Tryd.prog 103 #[v, u] w fun r w' => r = .returned (.agg (kv .u8 (macL k p)).toArray) ∧ Below w.heap.size w w' := by
  have HK := Kp.mk hk
  have HP := Kp.mk hp
  have HQ := Kp.mk hq
  have HL := Kp.mk hlen
  have HL2 := Kp.mk hlen2
  obtain ⟨A, hA⟩ : ∃ A, A = w.heap.size := ⟨_, rfl⟩
  have HA := Kp.mk hA
  clear hk hp hq hlen hlen2
  go_enter Tryd.func103, Tryd.ntmps103
  go_wp2_with fail
  rw [← hA]
  refine calls_world (fun W => Row W A 95 .u8 (fill 32 []) ∧ Below w.heap.size w W ∧ A < W.heap.size) ⟨Blk.newAt (w := w) z25 hA, more (Below.refl _ _) z25, by rw [hA]; simp⟩ ?_
  rintro w1 ⟨hr, hb, hsz⟩
  have HR := Kp.mk hr
  have HB := Kp.mk hb
  have HS := Kp.mk hsz
  clear hr hb hsz hA
  refine (keyBlock_any M v k w1 (HK.out.keep HB.out) (HP.out.keep HB.out) HL.out).mono ?_
  rintro r w2 ⟨rfl, h2⟩
  have HE : Kp (macL k p = digest (over (keyb k) 92 ++ digest (over (keyb k) 54 ++ p))) := ⟨rfl⟩
  have HBL := Kp.mk (keyb_len k)
  have H2 := Kp.mk h2
  clear h2
  obtain ⟨R, hR⟩ : ∃ R, R = macL k p := ⟨_, rfl⟩
  rw [← hR] at HE
  have HRR := Kp.mk hR
  clear hR
  generalize keyb k = B at *
  have HSB : Kp (A < w2.heap.size) := ⟨by have := H2.out.size; have := HS.out; omega⟩
  obtain ⟨W, hW⟩ : ∃ W, W = (w2.alloc z75).setRow w2.heap.size (kv .u8 B).toArray := ⟨_, rfl⟩
  have HRB : Kp (Row W w2.heap.size 143 .u8 B) := ⟨by rw [hW]; exact Row.setRow (k := .u8) (l := fill 64 []) (Blk.new w2 z75) _⟩
  have HRA : Kp (Row W A 95 .u8 (fill 32 [])) := ⟨by rw [hW]; exact Row.otherRow (Row.alloc (HR.out.keep H2.out) z75) (by have := HSB.out; omega) _⟩
  have HBW : Kp (Below w.heap.size w W) := ⟨by rw [hW]; exact Below.row (more (HB.out.trans (H2.out.mono HB.out.size)) z75) (by have := HSB.out; have := HA.out; omega) _⟩
  have HC75 := Kp.mk (cells75 HBL.out)
  have HZ75 : Kp ((kv .u8 (fill 64 [])).toArray.size = (kv .u8 B).toArray.size) := ⟨size75 HBL.out⟩
  have HDW : Kp (w2.heap.size < W.heap.size) := ⟨HRB.out.lt⟩
  go_wp2_with (first
    | (refine wpList_store_row rfl 143 (.tmp 5) (.tmp 8) rfl w2.heap.size (kv .u8 B).toArray rfl rfl 143 _ (Blk.new w2 z75) HC75.out HZ75.out (kv_all _ _) ?_; refine wpl_world (· = W) hW.symm ?_; clear hW; intro W0 e; rw [e]; clear e)
    | (refine wpList_load_row rfl 143 (.tmp 5) rfl w2.heap.size rfl 143 (kv .u8 B).toArray (0, 0) _ HRB.out Tryd.underlying143 rfl HC75.out ?_))
  refine (overlaid_any B 54 W HBL.out).mono ?_
  rintro r w3 ⟨rfl, h3, h3b⟩
  have HO1 := Kp.mk h3
  have HB3 : Kp (Below w.heap.size w w3) := ⟨HBW.out.trans (h3b.mono HBW.out.size)⟩
  have HOL : Kp ((over B 54).length = 64) := ⟨by rw [over_len, HBL.out]⟩
  have HRB3 := Kp.mk (HRB.out.keep h3b)
  have HRA3 := Kp.mk (HRA.out.keep h3b)
  have HS3 : Kp (W.heap.size < w3.heap.size) := ⟨(by
    obtain ⟨_, _, e, _, _, _, h5, _⟩ := h3
    simp only [Value.slice.injEq] at e
    have := (h5 _ e.1.symm (by omega)).2.2
    exact this)⟩
  clear h3 h3b
  go_wp2_with fail
  refine (msum_any _ N _ u (over B 54) p w3 (HK.out.keep HB3.out) HO1.out (HQ.out.keep HB3.out) (by rw [HOL.out]; have := HL2.out; omega)).mono ?_
  rintro r w4 ⟨rfl, h4⟩
  have HI := Kp.mk (digest_len (over B 54 ++ p))
  have HIB := Kp.mk (digest_bytes (over B 54 ++ p))
  have HB4 : Kp (Below w.heap.size w w4) := ⟨HB3.out.trans (h4.mono HB3.out.size)⟩
  have HRB4 := Kp.mk (HRB3.out.keep h4)
  have HRA4 := Kp.mk (HRA3.out.keep h4)
  generalize digest (over B 54 ++ p) = I at *
  have HCI := Kp.mk (cells25 HI.out)
  have HZI : Kp ((kv .u8 (fill 32 [])).toArray.size = (kv .u8 I).toArray.size) := ⟨by rw [kv_size, kv_size, HI.out]; rfl⟩
  obtain ⟨V, hV⟩ : ∃ V, V = (w4.alloc z25).setRow w4.heap.size (kv .u8 I).toArray := ⟨_, rfl⟩
  have HVI : Kp (Row V w4.heap.size 95 .u8 I) := ⟨by rw [hV]; exact Row.setRow (k := .u8) (l := fill 32 []) (Blk.new w4 z25) _⟩
  have HVB : Kp (Row V w2.heap.size 143 .u8 B) := ⟨by rw [hV]; exact Row.otherRow (Row.alloc HRB4.out z25) (by have := HRB4.out.lt; omega) _⟩
  have HVA : Kp (Row V A 95 .u8 (fill 32 [])) := ⟨by rw [hV]; exact Row.otherRow (Row.alloc HRA4.out z25) (by have := HRA4.out.lt; omega) _⟩
  have HBV : Kp (Below w.heap.size w V) := ⟨by rw [hV]; exact Below.row (more HB4.out z25) HB4.out.size _⟩
  have HH : Kp (HoldsB V V.heap.size (.slice (some ⟨w4.heap.size, 0, none⟩) 32 32) I) := ⟨by
    have h := HoldsB.ofBytes HVI.out HIB.out (by rw [HI.out]; decide)
    rw [HI.out] at h
    exact h⟩
  have HRL := Kp.mk (digest_len (over B 92 ++ I))
  clear h4
  go_wp2_with (refine wpList_store_row rfl 95 (.tmp 6) (.tmp 12) rfl w4.heap.size (kv .u8 I).toArray rfl rfl 95 _ (Blk.new w4 z25) HCI.out HZI.out (kv_all _ _) ?_; refine wpl_world (· = V) hV.symm ?_; intro W0 e; rw [e]; clear e)
  refine wp_region_any (by kernel_rfl) ?_
  change wpAny _ _ _ _ _ _ _ (World.drew _)
  refine wpAny_take (i := 2) (v := .slice (some ⟨w4.heap.size, 0, none⟩) 32 32) rfl (by kernel_rfl) (by kernel_rfl) (by kernel_rfl) (fun _ _ _ h => h) (Or.inl ⟨by rfl, ?_⟩) ?_
  · have hs := slice25_all
    intro w
    go_simp
  refine wpAny_ready (rs := [0]) (by kernel_rfl) (by simp) ?_
  refine AllReady.cons (o := { dst := some 13, op := Op.load 143 (Operand.tmp 5), type := 143, pos := "mac.go:19", after := #[], guard := none }) rfl (fun K hK => ?_) AllReady.nil
  rw [if_pos (by simp [Region.wanted])]
  refine wp_load_row 143 (.tmp 5) rfl w2.heap.size rfl 143 (kv .u8 B).toArray (0, 0) _ HVB.out.drew Tryd.underlying143 rfl HC75.out ?_
  refine hK _ _ ?_
  clear hK K
  refine wpAny_ready (rs := [1]) (by kernel_rfl) (by simp) ?_
  refine AllReady.cons (o := { dst := some 14, op := Op.call { callee := Callee.value (Operand.func 108), args := #[Operand.tmp 13, Operand.const (Value.int IntKind.u8 92)], argTypes := #[143, 5] }, type := 32, pos := "mac.go:19", after := #[{ on := 0, ground := Ground.data }], guard := none }) rfl (fun K hK => ?_) AllReady.nil
  go_simp
  rw [← hV]
  refine (overlaid_any B 92 V.drew HBL.out).mono ?_
  rintro r w5 ⟨rfl, h5, h5b⟩
  refine hK _ _ ?_
  clear hK K
  have h5c : Below V.heap.size V w5 := below_drew2 h5b
  have hVs : V.drew.heap.size = w4.heap.size + 1 := by
    rw [hV]
    show ((w4.alloc z25).setRow w4.heap.size (kv .u8 I).toArray).heap.size = _
    simp [World.setRow]
  rw [hVs] at h5
  have HO2 := Kp.mk h5
  clear hVs
  have HB5 : Kp (Below w.heap.size w w5) := ⟨HBV.out.trans (h5c.mono HBV.out.size)⟩
  have HOM : Kp ((over B 92).length = 64) := ⟨by rw [over_len, HBL.out]⟩
  have HVA5 := Kp.mk (HVA.out.keep h5c)
  have HH5 := Kp.mk (HH.out.keep h5c)
  clear h5 h5b h5c
  refine wpAny_ready (rs := [3]) (by kernel_rfl) (by simp) ?_
  refine AllReady.cons (o := { dst := some 16, op := Op.call { callee := Callee.value (Operand.func 107), args := #[Operand.tmp 14, Operand.tmp 15], argTypes := #[32, 32] }, type := 95, pos := "mac.go:19", after := #[{ on := 1, ground := Ground.data }, { on := 2, ground := Ground.data }, { on := 1, ground := Ground.chain }], guard := none }) rfl (fun K hK => ?_) AllReady.nil
  go_simp
  refine (msum_any w5.heap.size V.heap.size (.slice (some ⟨w4.heap.size + 1, 0, none⟩) 64 64) (.slice (some ⟨w4.heap.size, 0, none⟩) 32 32) (over B 92) I w5 (HK.out.keep HB5.out) HO2.out HH5.out (by rw [HOM.out, HI.out]; omega)).mono ?_
  rintro r w6 ⟨rfl, h6⟩
  refine hK _ _ ?_
  clear hK K
  have HB6 : Kp (Below w.heap.size w w6) := ⟨HB5.out.trans (h6.mono HB5.out.size)⟩
  have HVA6 := Kp.mk (HVA5.out.keep h6)
  have HCR := Kp.mk (cells25 HRL.out)
  have HZR : Kp ((kv .u8 (fill 32 [])).toArray.size = (kv .u8 (digest (over B 92 ++ I))).toArray.size) := ⟨by rw [kv_size, kv_size, HRL.out]; rfl⟩
  rw [← HE.out] at HCR HZR ⊢
  clear h6
  refine wpAny_ready (rs := [4]) (by kernel_rfl) (by simp) ?_
  refine AllReady.cons (o := { dst := none, op := Op.store 95 (Operand.tmp 4) (Operand.tmp 16), type := 0, pos := "mac.go:19", after := #[{ on := 3, ground := Ground.data }, { on := 3, ground := Ground.chain }, { on := 0, ground := Ground.phase }, { on := 1, ground := Ground.phase }, { on := 2, ground := Ground.phase }, { on := 3, ground := Ground.phase }], guard := none }) rfl (fun K hK => ?_) AllReady.nil
  rw [if_pos (by simp [Region.wanted])]
  refine wp_store_row 95 (.tmp 4) (.tmp 16) rfl A (kv .u8 R).toArray rfl rfl 95 _ HVA6.out HCR.out HZR.out (kv_all _ _) ?_
  refine hK _ _ ?_
  clear hK K
  refine wpAny_done (by kernel_rfl) ?_ _
  have HF := Kp.mk (HVA6.out.setRow R)
  have HBf := Kp.mk (Below.row HB6.out (g := A) (by rw [HA.out]; exact Nat.le_refl _) (kv .u8 R).toArray)
  clear hV
  go_wp2_with fail
  refine bodyPost_ret (v := .agg (kv .u8 R).toArray) ?_ rfl ⟨by rw [HRR.out], HBf.out⟩
  exact results_cell_row rfl _ _ A 95 _ (0, 0) _ rfl HF.out Tryd.underlying95 rfl HCR.out
end Go.Proofs.YtpljjmdkagbjpaaDoor

namespace Go.Proofs.YtpljjmdkagbjpaaDoor
open Go.RowKit

/-- A sum's first half. -/
def halfL (d : List Int) : List Int := d.take 16
theorem halfL_len {d : List Int} (h : d.length = 32) : (halfL d).length = 16 := by simp [halfL, h]
theorem info50 : (Tryd.prog.info? 27).map (·.size) = some 16 := by kernel_rfl
theorem cells50 {l : List Int} (h : l.length = 16) : (Tryd.prog.info? 27).map (·.size) = some (kv .u8 l).toArray.size := by rw [info50, kv_size, h]
abbrev z50 : Obj := .cells (kv .u8 (fill 16 [])).toArray 27
theorem size50 {l : List Int} (h : l.length = 16) : (kv .u8 (fill 16 [])).toArray.size = (kv .u8 l).toArray.size := by rw [kv_size, kv_size, h]; rfl
set_option maxRecDepth 100000 in
theorem slice50_all (b : Nat) (w : World) : (Instr.sliceAt 27 (.pointer (some ⟨b, 0, none⟩)) none none none).run Tryd.prog w = .ok (.slice (some ⟨b, 0, none⟩) 16 16) w := by
  have hl : Tryd.prog.arrayLen 27 = 16 := by kernel_rfl
  have he : Tryd.prog.elem 27 = 5 := by kernel_rfl
  rw [run_sliceAt_array_all (ht := Tryd.underlying27), hl, he, size5]
  rfl
theorem splice_half {d : List Int} (h : d.length = 32) : splice (kv .u8 (fill 16 [])) 0 (kv .u8 (halfL d)) = kv .u8 (halfL d) := by
  unfold splice halfL
  rw [List.take_zero, List.nil_append, List.drop_eq_nil_of_le (by simp [fill, h]), List.append_nil]
set_option maxRecDepth 100000 in
set_option maxHeartbeats 1000000 in
theorem half_any (d : List Int) (w : World) (hd : d.length = 32) :
    Calls Tryd.prog 69 #[.agg (kv .u8 d).toArray] w fun r w' => r = .returned (.agg (kv .u8 (halfL d)).toArray) ∧ Below w.heap.size w w' := by
  have HD := Kp.mk hd
  have HH := Kp.mk (halfL_len hd)
  have HC := Kp.mk (cells50 (halfL_len hd))
  have HZ := Kp.mk (size50 (halfL_len hd))
  have HS := Kp.mk (splice_half hd)
  have HE : Kp (∀ j u, (kv .u8 (halfL d))[j]? = some u → (kv .u8 d)[j]? = some u) := ⟨fun j u h => by
    unfold halfL at h
    rw [← kv_take, List.getElem?_take] at h
    split at h
    · exact h
    · cases h⟩
  clear hd
  go_enter Tryd.func69, Tryd.ntmps69
  go_wp2_with fail
  obtain ⟨A, hA⟩ : ∃ A, A = w.heap.size := ⟨_, rfl⟩
  have HA := Kp.mk hA
  rw [← hA]
  refine wp_world (fun W => Row W A 95 .u8 d ∧ Row W (A + 1) 27 .u8 (fill 16 []) ∧ Row W (A + 2) 27 .u8 (fill 16 []) ∧ Below A w W) ⟨Row.alloc (Row.alloc (Blk.newAt _ hA) z50) z50, Row.alloc (Blk.newAt z50 (by rw [hA]; simp)) z50, Blk.newAt z50 (by rw [hA]; simp), by rw [hA]; exact more (more (more (Below.refl _ _) _) z50) z50⟩ ?_
  rintro W ⟨h1, h2, h3, h4⟩
  have H1 := Kp.mk h1
  have H2 := Kp.mk h2
  have H3 := Kp.mk h3
  have H4 := Kp.mk h4
  have hs := slice25_all
  have hs2 := slice50_all
  clear h1 h2 h3 h4 hA
  refine wp_region_any (by kernel_rfl) ?_
  change wpAny _ _ _ _ _ _ _ (World.drew _)
  refine wpAny_take (i := 0) (v := .slice (some ⟨A + 2, 0, none⟩) 16 16) rfl (by kernel_rfl) (by kernel_rfl) (by kernel_rfl) (fun _ _ _ h => h) (Or.inl ⟨by rfl, ?_⟩) ?_
  · intro w
    go_simp
  refine wpAny_take (i := 1) (v := .slice (some ⟨A, 0, none⟩) 32 32) rfl (by kernel_rfl) (by kernel_rfl) (by kernel_rfl) (fun _ _ _ h => h) (Or.inl ⟨by rfl, ?_⟩) ?_
  · intro w
    go_simp
  refine wpAny_ready (rs := [2]) (by kernel_rfl) (by simp) ?_
  refine AllReady.cons (o := { dst := some 6, op := Op.call { callee := Callee.builtin Builtin.copy, args := #[Operand.tmp 4, Operand.tmp 5], argTypes := #[32, 32] }, type := 3, pos := "mac.go:84", after := #[{ on := 0, ground := Ground.data }, { on := 1, ground := Ground.data }], guard := none }) rfl (fun K hK => ?_) AllReady.nil
  refine step_copy_splice rfl (.tmp 4) (.tmp 5) 32 32 rfl 5 Tryd.underlying32 (by kernel_rfl) (some ⟨A + 2, 0, none⟩) (some ⟨A, 0, none⟩) 16 16 32 32 rfl rfl (A + 2) 0 (kv .u8 (fill 16 [])) 27 H3.out.drew (kv .u8 (halfL d)) (by rw [List.length_map, HH.out]; rfl) (fun _ => ⟨rfl, _, rfl, fun j u hu => ?_⟩) (by rw [List.length_map, List.length_map, HH.out, fill_len (by simp)]; omega) (kv_one _) (A + 2) W.drew (Below.refl _ _) (Nat.le_refl _) ?_
  · have h := HE.out j u hu
    have hr := Blk.cell H1.out.drew j
    rw [List.getElem?_toArray, h] at hr
    have e : (⟨A, 0, none⟩ : Addr).add j = ⟨A, j, none⟩ := by unfold Addr.add; split <;> simp_all
    rw [e]
    exact hr
  intro w4 hg4 hb4
  refine hK _ _ ?_
  clear hK K
  refine wpAny_done (by kernel_rfl) ?_ _
  have G1 : Kp (Row w4 (A + 2) 27 .u8 (halfL d)) := ⟨by have h := hg4.out; rw [HS.out] at h; exact h⟩
  have G2 : Kp (Row w4 (A + 1) 27 .u8 (fill 16 [])) := ⟨H2.out.drew.upto hb4 (by omega)⟩
  have G3 : Kp (Below A w w4) := ⟨H4.out.trans ((below_drew2 hb4).mono (by omega))⟩
  have HF := Kp.mk (G2.out.setRow (halfL d))
  have HBf := Kp.mk (Below.row G3.out (g := A + 1) (by omega) (kv .u8 (halfL d)).toArray)
  clear hg4 hb4 hs hs2
  go_wp2_with (first
    | (refine wpList_load_row rfl 27 (.tmp 3) rfl (A + 2) rfl 27 (kv .u8 (halfL d)).toArray (0, 0) _ G1.out Tryd.underlying27 rfl HC.out ?_)
    | (refine wpList_store_row rfl 27 (.tmp 2) (.tmp 7) rfl (A + 1) (kv .u8 (halfL d)).toArray rfl rfl 27 _ G2.out HC.out HZ.out (kv_all _ _) ?_))
  refine bodyPost_ret (v := .agg (kv .u8 (halfL d)).toArray) ?_ rfl ⟨rfl, by rw [← HA.out]; exact HBf.out⟩
  exact results_cell_row rfl _ _ (A + 1) 27 _ (0, 0) _ rfl HF.out Tryd.underlying27 rfl HC.out
end Go.Proofs.YtpljjmdkagbjpaaDoor

namespace Go.Proofs.YtpljjmdkagbjpaaDoor
open Go.RowKit

theorem macL_len (k p : List Int) : (macL k p).length = 32 := digest_len _
set_option maxRecDepth 100000 in
set_option maxHeartbeats 1000000 in
theorem tag_any (M N : Nat) (v u : Value) (k p : List Int) (w : World) (hk : KonIs w) (hp : HoldsB w M v k) (hq : HoldsB w N u p) (hlen : k.length ≤ 999999999999000) (hlen2 : p.length ≤ 999999999990000) :
    Calls Tryd.prog 94 #[v, u] w fun r w' => r = .returned (.agg (kv .u8 (halfL (macL k p))).toArray) ∧ Below w.heap.size w w' := by
  have HK := Kp.mk hk
  have HP := Kp.mk hp
  have HQ := Kp.mk hq
  have HL := Kp.mk hlen
  have HL2 := Kp.mk hlen2
  clear hk hp hq hlen hlen2
  go_enter Tryd.func94, Tryd.ntmps94
  go_wp2_with fail
  refine calls_world (fun W => Row W w.heap.size 27 .u8 (fill 16 []) ∧ Below w.heap.size w W) ⟨Blk.newAt (w := w) z50 rfl, more (Below.refl _ _) z50⟩ ?_
  rintro w1 ⟨hr, hb⟩
  have HR := Kp.mk hr
  have HB := Kp.mk hb
  clear hr hb
  refine (mac_any M N v u k p w1 (HK.out.keep HB.out) (HP.out.keep HB.out) (HQ.out.keep HB.out) HL.out HL2.out).mono ?_
  rintro r w2 ⟨rfl, h2⟩
  have HR2 := Kp.mk (HR.out.keep h2)
  have HB2 : Kp (Below w.heap.size w w2) := ⟨HB.out.trans (h2.mono HB.out.size)⟩
  have HM := Kp.mk (macL_len k p)
  obtain ⟨d, hd⟩ : ∃ d, d = macL k p := ⟨_, rfl⟩
  rw [← hd] at HM ⊢
  have HD := Kp.mk hd
  clear h2 hd
  go_wp2_with fail
  refine (half_any d w2 HM.out).mono ?_
  rintro r w3 ⟨rfl, h3⟩
  have HR3 := Kp.mk (HR2.out.keep h3)
  have HB3 : Kp (Below w.heap.size w w3) := ⟨HB2.out.trans (h3.mono HB2.out.size)⟩
  have HC := Kp.mk (cells50 (halfL_len HM.out))
  have HZ := Kp.mk (size50 (halfL_len HM.out))
  have HF := Kp.mk (HR3.out.setRow (halfL d))
  have HBf := Kp.mk (Below.row HB3.out (g := w.heap.size) (Nat.le_refl _) (kv .u8 (halfL d)).toArray)
  clear h3
  go_wp2_with (refine wpList_store_row rfl 27 (.tmp 4) (.tmp 8) rfl w.heap.size (kv .u8 (halfL d)).toArray rfl rfl 27 _ HR3.out HC.out HZ.out (kv_all _ _) ?_)
  refine bodyPost_ret (v := .agg (kv .u8 (halfL d)).toArray) ?_ rfl ⟨by rw [HD.out], HBf.out⟩
  exact results_cell_row rfl _ _ w.heap.size 27 _ (0, 0) _ rfl HF.out Tryd.underlying27 rfl HC.out
theorem info49 : (Tryd.prog.info? 25).map (·.size) = some 16 := by kernel_rfl
theorem cells49 {l : List Int} (h : l.length = 16) : (Tryd.prog.info? 25).map (·.size) = some (kv .u8 l).toArray.size := by rw [info49, kv_size, h]
abbrev z49 : Obj := .cells (kv .u8 (fill 16 [])).toArray 25
theorem take_succ_get {l : List Int} {i : Nat} (h : i < l.length) : l.take (i + 1) = l.take i ++ [l.getD i 0] := by
  rw [List.take_succ_eq_append_getElem h, List.getD_eq_getElem?_getD, List.getElem?_eq_getElem h]
  rfl
theorem fill_take {n i : Nat} {l : List Int} (h : i < l.length) (hn : i < n) : (fill n (l.take i)).set i (l.getD i 0) = fill n (l.take (i + 1)) := by
  rw [take_succ_get h]
  have e : (l.take i).length = i := by rw [List.length_take]; omega
  have h2 := fill_set (n := n) (l := l.take i) (by omega) (l.getD i 0)
  rw [e] at h2
  exact h2
set_option maxRecDepth 100000 in
set_option maxHeartbeats 1000000 in
theorem rhalf_any (d : List Int) (w : World) (hd : d.length = 32) :
    Calls Tryd.prog 71 #[.agg (kv .u8 d).toArray] w fun r w' => r = .returned (.agg (kv .u8 (halfL d)).toArray) ∧ Below w.heap.size w w' := by
  have HD := Kp.mk hd
  have HC := Kp.mk (cells49 (halfL_len hd))
  have HZ := Kp.mk (size50 (halfL_len hd))
  clear hd
  go_enter Tryd.func71, Tryd.ntmps71
  go_wp2_with fail
  obtain ⟨A, hA⟩ : ∃ A, A = w.heap.size := ⟨_, rfl⟩
  have HA := Kp.mk hA
  rw [← hA]
  refine wp_world (fun W => Row W A 35 .u8 d ∧ Row W (A + 1) 25 .u8 (fill 16 []) ∧ Row W (A + 2) 25 .u8 (fill 16 []) ∧ Below A w W) ⟨Row.alloc (Row.alloc (Blk.newAt _ hA) z49) z49, Row.alloc (Blk.newAt z49 (by rw [hA]; simp)) z49, Blk.newAt z49 (by rw [hA]; simp), by rw [hA]; exact more (more (more (Below.refl _ _) _) z49) z49⟩ ?_
  rintro W ⟨h1, h2, h3, h4⟩
  have H1 := Kp.mk h1
  have H2 := Kp.mk h2
  have H3 := Kp.mk h3
  have H4 := Kp.mk h4
  clear h1 h2 h3 h4 hA
  go_loopw [4] (fun c wr => ∃ i : Nat, i ≤ 16 ∧ c = .int .i64 i ∧ Row wr A 35 .u8 d ∧ Row wr (A + 1) 25 .u8 (fill 16 []) ∧ Row wr (A + 2) 25 .u8 (fill 16 (d.take i)) ∧ Below A w wr) (fun c _ => 16 - (intOf c).toNat)
  case atStart => exact ⟨0, by omega, rfl, H1.out, H2.out, H3.out, H4.out⟩
  case round =>
    obtain ⟨i, hi, rfl, h1, h2, h3, h4⟩ := hrel
    have G1 := Kp.mk h1
    have G2 := Kp.mk h2
    have G3 := Kp.mk h3
    have G4 := Kp.mk h4
    clear h1 h2 h3 h4 H1 H2 H3 H4
    by_cases hlt : i < 16
    · have c1 := G1.out.cell (i := i) (by rw [HD.out]; omega)
      have c2 := G3.out.cell (i := i) (by rw [fill_len (by rw [List.length_take]; omega)]; exact hlt)
      have f2 := G3.out.frozen i
      have HS := Kp.mk (fill_take (n := 16) (l := d) (i := i) (by rw [HD.out]; omega) hlt)
      generalize d.getD i 0 = x at *
      go_wp2_with fail
      exact ⟨⟨i + 1, by omega, by go_num, G1.out.other (by show A + 2 ≠ A; omega) _, G2.out.other (by show A + 2 ≠ A + 1; omega) _, (G3.out.set i _).as HS.out, G4.out.setCell (by show A ≤ A + 2; omega) _⟩, by simp [intOf]; omega⟩
    · have HI : Kp (i = 16) := ⟨by omega⟩
      have hge : 16 ≤ (i : Int) := by omega
      have G5 : Kp (Row wr (A + 2) 25 .u8 (halfL d)) := ⟨by
        have h := G3.out
        rw [HI.out, fill_full (by rw [List.length_take, HD.out]; rfl)] at h
        exact h⟩
      have HF := Kp.mk (G2.out.setRow (halfL d))
      have HBf := Kp.mk (Below.row G4.out (g := A + 1) (by omega) (kv .u8 (halfL d)).toArray)
      clear hlt hi G3
      go_wp2_with (first
        | (refine wpList_load_row rfl 25 (.tmp 3) rfl (A + 2) rfl 25 (kv .u8 (halfL d)).toArray (0, 0) _ G5.out Tryd.underlying25 rfl HC.out ?_)
        | (refine wpList_store_row rfl 25 (.tmp 2) (.tmp 14) rfl (A + 1) (kv .u8 (halfL d)).toArray rfl rfl 25 _ G2.out HC.out HZ.out (kv_all _ _) ?_))
      refine bodyPost_ret (v := .agg (kv .u8 (halfL d)).toArray) ?_ rfl ⟨rfl, by rw [← HA.out]; exact HBf.out⟩
      exact results_cell_row rfl _ _ (A + 1) 25 _ (0, 0) _ rfl HF.out Tryd.underlying25 rfl HC.out
end Go.Proofs.YtpljjmdkagbjpaaDoor

namespace Go.Proofs.YtpljjmdkagbjpaaDoor
open Go.RowKit

theorem flat_take (zs : List (List Int)) (i : Nat) (h : i < zs.length) : (zs.take (i + 1)).flatten = (zs.take i).flatten ++ zs.getD i [] := by
  rw [List.take_succ_eq_append_getElem h, List.flatten_append, List.getD_eq_getElem?_getD, List.getElem?_eq_getElem h]
  simp
theorem flat_le (zs : List (List Int)) (i : Nat) : (zs.take i).flatten.length ≤ zs.flatten.length := by
  have h := congrArg (fun l => List.length (List.flatten l)) (List.take_append_drop i zs)
  simp only [List.flatten_append, List.length_append] at h
  omega
theorem flat_le2 (zs : List (List Int)) (i : Nat) (h : i < zs.length) : (zs.take i).flatten.length + (zs.getD i []).length ≤ zs.flatten.length := by
  have := flat_le zs (i + 1)
  rw [flat_take zs i h, List.length_append] at this
  exact this
/-- The short sum of a text. -/
abbrev shortL (t : List Int) : List Int := halfL (digest t)
theorem shortL_len (t : List Int) : (shortL t).length = 16 := halfL_len (digest_len t)
theorem shortL_bytes (t : List Int) : Bytes (shortL t) := (bytes_bytes _).take 16
set_option maxRecDepth 100000 in
set_option maxHeartbeats 1000000 in
theorem short_any (k : Int) (a0 : Option Addr) (n cap : Nat) (zs : List (List Int)) (w : World) (hk : KonIs w) (h8 : 0 ≤ k ∧ k ≤ 255) (hp : HoldsP w (.slice a0 n cap) zs) (hlen : 1 + zs.flatten.length ≤ 999999999990000) :
    Calls Tryd.prog 42 #[.int .u8 k, .slice a0 n cap] w fun r w' => r = .returned (.agg (kv .u8 (shortL (k :: zs.flatten))).toArray) ∧ Below w.heap.size w w' := by
  have hl : zs.length = n := by obtain ⟨a', n', c', e, hn⟩ := hp.slice; simp only [Value.slice.injEq] at e; omega
  have hlm : n ≤ maxLen := by obtain ⟨_, _, _, h2, _⟩ := hp; omega
  unfold maxLen at hlm
  have HK := Kp.mk hk
  have H8 := Kp.mk h8
  have HP := Kp.mk hp
  have HL := Kp.mk hl
  have HLen := Kp.mk hlen
  have HP0 := Kp.mk hk.pos
  clear hk h8 hp hl hlen
  go_enter Tryd.func42, Tryd.ntmps42
  go_wp2_with fail
  obtain ⟨A, hA⟩ : ∃ A, A = w.heap.size := ⟨_, rfl⟩
  have HA := Kp.mk hA
  rw [← hA]
  refine calls_world (fun W => Row W A 27 .u8 (fill 16 []) ∧ Below A w W ∧ A < W.heap.size) ⟨Blk.newAt (w := w) z50 hA, by rw [hA]; exact more (Below.refl _ _) z50, by rw [hA]; simp⟩ ?_
  rintro w1 ⟨hr, hb, hsz⟩
  have HR := Kp.mk hr
  have HB := Kp.mk hb
  have HS := Kp.mk hsz
  clear hr hb hsz hA
  refine (new_any w1).mono ?_
  rintro r w2 ⟨rfl, hh, hb⟩
  obtain ⟨D, hD⟩ : ∃ D, D = w1.heap.size := ⟨_, rfl⟩
  rw [← hD] at hh hb ⊢
  have HH := Kp.mk hh
  have HB2 : Kp (Below A w w2) := ⟨HB.out.trans (hb.mono (by rw [hD]; exact Nat.le_of_lt HS.out))⟩
  have HR2 := Kp.mk (HR.out.keep (by rw [← hD]; exact hb))
  have HAD : Kp (A < D) := ⟨by rw [hD]; exact HS.out⟩
  clear hh hb hD HR HB HS
  go_wp2_with fail
  have HX := Kp.mk (show HoldsX (w2.alloc (.cells #[.int .u8 k] 5)) D (.slice (some ⟨w2.heap.size, 0, none⟩) 1 1) [k] from ⟨one_holds w2 k H8.out, by
    intro x c c' he h0
    simp only [Value.slice.injEq, Option.some.injEq] at he
    rw [← he.1]
    have := HH.out.lt
    show w2.heap.size ≠ D
    omega⟩)
  have HB3 : Kp (Below A w (w2.alloc (.cells #[.int .u8 k] 5))) := ⟨HB2.out.alloc (by have := HR2.out.lt; omega) _⟩
  have HKa : Kp (KonIs (w2.alloc (.cells #[.int .u8 k] 5))) := ⟨HK.out.keep (by rw [← HA.out]; exact HB3.out)⟩
  have HRa := Kp.mk (HR2.out.alloc (.cells #[.int .u8 k] 5))
  have HHa : Kp (HashIs (w2.alloc (.cells #[.int .u8 k] 5)) D []) := ⟨HH.out.keep (more (Below.refl _ _) _)⟩
  generalize w2.alloc (.cells #[.int .u8 k] 5) = W3 at *
  refine (write_any D [] [k] _ W3 HKa.out (by have := HAD.out; omega) HHa.out HX.out (by simp)).mono ?_
  rintro r w4 ⟨rfl, h4⟩
  obtain ⟨rest', q1, q2, q3, hT⟩ := h4
  have HI4 : Kp (HashIs w4 D ([] ++ [k])) := ⟨⟨rest', q1, q2, q3, hT.blk⟩⟩
  have HB4 : Kp (Below A w w4) := ⟨HB3.out.trans (hT.below (Nat.le_of_lt HAD.out) (by have := HRa.out.lt; omega))⟩
  have HR4 := Kp.mk (show Row w4 A 27 .u8 (fill 16 []) from hT.keep HRa.out (by have := HAD.out; omega))
  clear q1 q2 q3 hT HX HB3 HKa HRa HHa HH HB2 HR2
  go_wp2_with fail
  go_loopw [15] (fun c wr => ∃ i : Nat, i ≤ n ∧ c = .int .i64 i ∧ HashIs wr D (k :: (zs.take i).flatten) ∧ Row wr A 27 .u8 (fill 16 []) ∧ Below A w wr) (fun c _ => n - (intOf c).toNat)
  case atStart => exact ⟨0, by omega, rfl, by simpa using HI4.out, HR4.out, HB4.out⟩
  case round =>
    obtain ⟨i, hi, rfl, h1, h2, h3⟩ := hrel
    clear HI4 HR4 HB4
    have G1 := Kp.mk h1
    have G2 := Kp.mk h2
    have G3 := Kp.mk h3
    clear h1 h2 h3
    by_cases hlt : i < n
    · obtain ⟨b, off, a1, n1, c1, rfl, hbw, hcell, hp⟩ : ∃ b off a1 n1 c1, a0 = some ⟨b, off, none⟩ ∧ b < w.heap.size ∧ w.cell? ⟨b, off + i, none⟩ = some (.slice a1 n1 c1) ∧ HoldsB w w.heap.size (.slice a1 n1 c1) (zs.getD i []) := by
        obtain ⟨a', cap', e, _, h3⟩ := HP.out
        simp only [Value.slice.injEq] at e
        obtain ⟨rfl, -, -⟩ := e
        obtain ⟨b, off, a1, n1, c1, e1, e2, e3, e4⟩ := h3 i (by rw [HL.out]; exact hlt)
        exact ⟨b, off, a1, n1, c1, e1, e2, e3, e4⟩
      have hc : wr.cell? ⟨b, off + i, none⟩ = some (.slice a1 n1 c1) := (World.cell?_of_block (w := w) (a := ⟨b, off + i, none⟩) (G3.out.block b (by rw [HA.out]; exact hbw))).trans hcell
      have HPp := Kp.mk hp
      have HFT := Kp.mk (flat_take zs i (by rw [HL.out]; exact hlt))
      have HF2 := Kp.mk (flat_le2 zs i (by rw [HL.out]; exact hlt))
      clear hcell hbw hp
      generalize zs.getD i [] = p at *
      generalize hQ : (zs.take i).flatten = q at *
      have HQq := Kp.mk hQ
      clear hQ
      go_wp2_with fail
      refine (write_any D (k :: q) p _ wr (HK.out.keep (by rw [← HA.out]; exact G3.out)) (by have := HAD.out; omega) G1.out (HPp.out.apart (by rw [← HA.out]; exact G3.out) (by rw [← HA.out]; exact Nat.le_of_lt HAD.out)) (by rw [List.length_cons]; have := HF2.out; have := HLen.out; omega)).mono ?_
      rintro r w5 ⟨rfl, h5⟩
      obtain ⟨rest', q1, q2, q3, hT⟩ := h5
      have HI5 : Kp (HashIs w5 D (k :: (zs.take (i + 1)).flatten)) := ⟨by rw [HFT.out, ← List.cons_append]; exact ⟨rest', q1, q2, q3, hT.blk⟩⟩
      have HB5 : Kp (Below A w w5) := ⟨G3.out.trans (hT.below (Nat.le_of_lt HAD.out) (by have := G2.out.lt; omega))⟩
      have HR5 := Kp.mk (show Row w5 A 27 .u8 (fill 16 []) from hT.keep G2.out (by have := HAD.out; omega))
      clear q1 q2 q3 hT hc
      go_wp2_with fail
      exact ⟨⟨i + 1, by omega, by go_num, HI5.out, HR5.out, HB5.out⟩, by simp [intOf]; omega⟩
    · have hge : (n : Int) ≤ i := by omega
      have G1' : Kp (HashIs wr D (k :: zs.flatten)) := ⟨by have h := G1.out; rw [List.take_of_length_le (by have := HL.out; omega)] at h; exact h⟩
      clear hlt hi
      go_wp2_with fail
      refine (hsum_any D (k :: zs.flatten) wr (HK.out.keep (by rw [← HA.out]; exact G3.out)) (by have := HAD.out; omega) G1'.out (by rw [List.length_cons]; have := HLen.out; omega)).mono ?_
      rintro r w6 ⟨rfl, h6⟩
      have HR6 := Kp.mk (G2.out.keep h6)
      have HB6 : Kp (Below A w w6) := ⟨G3.out.trans (h6.mono (by have := G2.out.lt; omega))⟩
      have HM := Kp.mk (digest_len (k :: zs.flatten))
      obtain ⟨d, hd⟩ : ∃ d, d = digest (k :: zs.flatten) := ⟨_, rfl⟩
      have HD := Kp.mk (show shortL (k :: zs.flatten) = halfL d by rw [hd])
      rw [← hd] at HM ⊢
      clear h6 hd
      go_wp2_with fail
      refine (half_any d w6 HM.out).mono ?_
      rintro r w7 ⟨rfl, h7⟩
      have HR7 := Kp.mk (HR6.out.keep h7)
      have HB7 : Kp (Below A w w7) := ⟨HB6.out.trans (h7.mono (by have := HR6.out.lt; omega))⟩
      have HC := Kp.mk (cells50 (halfL_len HM.out))
      have HZ := Kp.mk (size50 (halfL_len HM.out))
      have HF := Kp.mk (HR7.out.setRow (halfL d))
      have HBf := Kp.mk (Below.row HB7.out (g := A) (Nat.le_refl _) (kv .u8 (halfL d)).toArray)
      clear h7
      go_wp2_with (refine wpList_store_row rfl 27 (.tmp 4) (.tmp 25) rfl A (kv .u8 (halfL d)).toArray rfl rfl 27 _ HR7.out HC.out HZ.out (kv_all _ _) ?_)
      refine bodyPost_ret (v := .agg (kv .u8 (halfL d)).toArray) ?_ rfl ⟨by rw [HD.out], by rw [← HA.out]; exact HBf.out⟩
      exact results_cell_row rfl _ _ A 27 _ (0, 0) _ rfl HF.out Tryd.underlying27 rfl HC.out
end Go.Proofs.YtpljjmdkagbjpaaDoor

namespace Go.Proofs.YtpljjmdkagbjpaaDoor
open Go.RowKit

theorem sched_take (l : List Int) (n j : Nat) (h : j ≤ n) : (sched l n).take (16 + j) = sched l j := by
  induction n with
  | zero =>
    obtain rfl : j = 0 := by omega
    rw [List.take_of_length_le (by rw [sched_len]; omega)]
  | succ n ih =>
    by_cases hj : j ≤ n
    · have : sched l (n + 1) = sched l n ++ [w32 (w32 (w32 ((sched l n).getD n 0 + sm0 ((sched l n).getD (n + 1) 0)) + (sched l n).getD (n + 9) 0) + sm1 ((sched l n).getD (n + 14) 0))] := rfl
      rw [this, List.take_append_of_le_length (by rw [sched_len]; omega), ih hj]
    · obtain rfl : j = n + 1 := by omega
      rw [List.take_of_length_le (by rw [sched_len]; omega)]
theorem sched_get (l : List Int) (n j i : Nat) (h : j ≤ n) (hi : i < 16 + j) : (sched l n).getD i 0 = (sched l j).getD i 0 := by
  rw [← sched_take l n j h, take_getD hi]
theorem sched_low (l : List Int) (k : Nat) (h : k < 16) : (sched l 48).getD k 0 = word l k := by
  rw [sched_get l 48 0 k (by omega) (by omega)]
  simp [sched, List.getD_eq_getElem?_getD, h]
theorem sched_high (l : List Int) (k : Nat) (h16 : 16 ≤ k) (h : k < 64) :
    (sched l 48).getD k 0 = (sm1 ((sched l 48).getD (k - 2) 0) + (sched l 48).getD (k - 7) 0 + sm0 ((sched l 48).getD (k - 15) 0) + (sched l 48).getD (k - 16) 0) % 4294967296 := by
  obtain ⟨j, rfl⟩ : ∃ j, k = 16 + j := ⟨k - 16, by omega⟩
  have e : sched l (j + 1) = sched l j ++ [w32 (w32 (w32 ((sched l j).getD j 0 + sm0 ((sched l j).getD (j + 1) 0)) + (sched l j).getD (j + 9) 0) + sm1 ((sched l j).getD (j + 14) 0))] := rfl
  rw [sched_get l 48 (j + 1) (16 + j) (by omega) (by omega), e]
  rw [show 16 + j - 2 = j + 14 by omega, show 16 + j - 7 = j + 9 by omega, show 16 + j - 15 = j + 1 by omega, show 16 + j - 16 = j by omega]
  rw [sched_get l 48 j (j + 14) (by omega) (by omega), sched_get l 48 j (j + 9) (by omega) (by omega), sched_get l 48 j (j + 1) (by omega) (by omega), sched_get l 48 j j (by omega) (by omega)]
  have hl := sched_len l j
  generalize sched l j = S at *
  have e2 : (S ++ [w32 (w32 (w32 (S.getD j 0 + sm0 (S.getD (j + 1) 0)) + S.getD (j + 9) 0) + sm1 (S.getD (j + 14) 0))]).getD (16 + j) 0 = w32 (w32 (w32 (S.getD j 0 + sm0 (S.getD (j + 1) 0)) + S.getD (j + 9) 0) + sm1 (S.getD (j + 14) 0)) := by
    rw [List.getD_eq_getElem?_getD, List.getElem?_append_right (by omega), hl, Nat.sub_self]
    rfl
  rw [e2]
  unfold w32
  simp only [w32_mod]
  omega
theorem sched_step (l : List Int) (k : Nat) (h : k < 64) : (sched l 48).take (k + 1) = (sched l 48).take k ++ [(sched l 48).getD k 0] := by
  have hl : k < (sched l 48).length := by rw [sched_len]; omega
  rw [List.take_succ_eq_append_getElem hl, List.getD_eq_getElem?_getD, List.getElem?_eq_getElem hl]
  rfl
theorem rotrS (x : Int) (n : Nat) (k : Int) (w : World) (hk : k = (n : Int)) (h1 : 1 ≤ n) (h2 : n ≤ 31) : Calls Tryd.prog 102 #[.int .u32 x, .int .u64 k] w fun r w' => r = .returned (.int .u32 (rot x n)) ∧ w' = w :=
  (rotr x n k w hk h1 h2).mono fun _ _ ⟨a, b⟩ => ⟨a, b.symm⟩
end Go.Proofs.YtpljjmdkagbjpaaDoor
