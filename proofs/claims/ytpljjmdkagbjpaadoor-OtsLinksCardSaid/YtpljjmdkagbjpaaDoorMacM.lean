/-
  mac.Mac.
-/
import Derived.Test.YtpljjmdkagbjpaaDoorMacK
namespace Go.Proofs.YtpljjmdkagbjpaaDoor
open Go.RowKit

theorem below_drew2 {B : Nat} {w w' : World} (h : Below B w.drew w') : Below B w w' := ⟨h.os, h.tape, h.output, h.size, h.block⟩
set_option maxRecDepth 100000 in
set_option maxHeartbeats 2000000 in
theorem mac_any (M N : Nat) (v u : Value) (k p : List Int) (w : World) (hk : KonIs w) (hp : HoldsB w M v k) (hq : HoldsB w N u p) (hlen : k.length ≤ 999999999999000) (hlen2 : p.length ≤ 999999999990000) :
    Calls Tryd.prog 103 #[v, u] w fun r w' => r = .returned (.agg (kv .u8 (macL k p)).toArray) ∧ Below w.heap.size w w' := by
  have HK := Kp.mk hk
  have HP := Kp.mk hp
  have HQ := Kp.mk hq
  have HL := Kp.mk hlen
  have HL2 := Kp.mk hlen2
  obtain ⟨A, hA⟩ : ∃ A, A = w.heap.size := ⟨_, rfl⟩
  have HA := Kp.mk hA
  clear hk hp hq hlen hlen2
  go_enter Tryd.func103, Tryd.ntmps103
  go_wp2_with fail
  rw [← hA]
  refine calls_world (fun W => Row W A 95 .u8 (fill 32 []) ∧ Below w.heap.size w W ∧ A < W.heap.size) ⟨Blk.newAt (w := w) z25 hA, more (Below.refl _ _) z25, by rw [hA]; simp⟩ ?_
  rintro w1 ⟨hr, hb, hsz⟩
  have HR := Kp.mk hr
  have HB := Kp.mk hb
  have HS := Kp.mk hsz
  clear hr hb hsz hA
  refine (keyBlock_any M v k w1 (HK.out.keep HB.out) (HP.out.keep HB.out) HL.out).mono ?_
  rintro r w2 ⟨rfl, h2⟩
  have HE : Kp (macL k p = digest (over (keyb k) 92 ++ digest (over (keyb k) 54 ++ p))) := ⟨rfl⟩
  have HBL := Kp.mk (keyb_len k)
  have H2 := Kp.mk h2
  clear h2
  obtain ⟨R, hR⟩ : ∃ R, R = macL k p := ⟨_, rfl⟩
  rw [← hR] at HE
  have HRR := Kp.mk hR
  clear hR
  generalize keyb k = B at *
  have HSB : Kp (A < w2.heap.size) := ⟨by have := H2.out.size; have := HS.out; omega⟩
  obtain ⟨W, hW⟩ : ∃ W, W = (w2.alloc z75).setRow w2.heap.size (kv .u8 B).toArray := ⟨_, rfl⟩
  have HRB : Kp (Row W w2.heap.size 143 .u8 B) := ⟨by rw [hW]; exact Row.setRow (k := .u8) (l := fill 64 []) (Blk.new w2 z75) _⟩
  have HRA : Kp (Row W A 95 .u8 (fill 32 [])) := ⟨by rw [hW]; exact Row.otherRow (Row.alloc (HR.out.keep H2.out) z75) (by have := HSB.out; omega) _⟩
  have HBW : Kp (Below w.heap.size w W) := ⟨by rw [hW]; exact Below.row (more (HB.out.trans (H2.out.mono HB.out.size)) z75) (by have := HSB.out; have := HA.out; omega) _⟩
  have HC75 := Kp.mk (cells75 HBL.out)
  have HZ75 : Kp ((kv .u8 (fill 64 [])).toArray.size = (kv .u8 B).toArray.size) := ⟨size75 HBL.out⟩
  have HDW : Kp (w2.heap.size < W.heap.size) := ⟨HRB.out.lt⟩
  go_wp2_with (first
    | (refine wpList_store_row rfl 143 (.tmp 5) (.tmp 8) rfl w2.heap.size (kv .u8 B).toArray rfl rfl 143 _ (Blk.new w2 z75) HC75.out HZ75.out (kv_all _ _) ?_; refine wpl_world (· = W) hW.symm ?_; clear hW; intro W0 e; rw [e]; clear e)
    | (refine wpList_load_row rfl 143 (.tmp 5) rfl w2.heap.size rfl 143 (kv .u8 B).toArray (0, 0) _ HRB.out Tryd.underlying143 rfl HC75.out ?_))
  refine (overlaid_any B 54 W HBL.out).mono ?_
  rintro r w3 ⟨rfl, h3, h3b⟩
  have HO1 := Kp.mk h3
  have HB3 : Kp (Below w.heap.size w w3) := ⟨HBW.out.trans (h3b.mono HBW.out.size)⟩
  have HOL : Kp ((over B 54).length = 64) := ⟨by rw [over_len, HBL.out]⟩
  have HRB3 := Kp.mk (HRB.out.keep h3b)
  have HRA3 := Kp.mk (HRA.out.keep h3b)
  have HS3 : Kp (W.heap.size < w3.heap.size) := ⟨(by
    obtain ⟨_, _, e, _, _, _, h5, _⟩ := h3
    simp only [Value.slice.injEq] at e
    have := (h5 _ e.1.symm (by omega)).2.2
    exact this)⟩
  clear h3 h3b
  go_wp2_with fail
  refine (msum_any _ N _ u (over B 54) p w3 (HK.out.keep HB3.out) HO1.out (HQ.out.keep HB3.out) (by rw [HOL.out]; have := HL2.out; omega)).mono ?_
  rintro r w4 ⟨rfl, h4⟩
  have HI := Kp.mk (digest_len (over B 54 ++ p))
  have HIB := Kp.mk (digest_bytes (over B 54 ++ p))
  have HB4 : Kp (Below w.heap.size w w4) := ⟨HB3.out.trans (h4.mono HB3.out.size)⟩
  have HRB4 := Kp.mk (HRB3.out.keep h4)
  have HRA4 := Kp.mk (HRA3.out.keep h4)
  generalize digest (over B 54 ++ p) = I at *
  have HCI := Kp.mk (cells25 HI.out)
  have HZI : Kp ((kv .u8 (fill 32 [])).toArray.size = (kv .u8 I).toArray.size) := ⟨by rw [kv_size, kv_size, HI.out]; rfl⟩
  obtain ⟨V, hV⟩ : ∃ V, V = (w4.alloc z25).setRow w4.heap.size (kv .u8 I).toArray := ⟨_, rfl⟩
  have HVI : Kp (Row V w4.heap.size 95 .u8 I) := ⟨by rw [hV]; exact Row.setRow (k := .u8) (l := fill 32 []) (Blk.new w4 z25) _⟩
  have HVB : Kp (Row V w2.heap.size 143 .u8 B) := ⟨by rw [hV]; exact Row.otherRow (Row.alloc HRB4.out z25) (by have := HRB4.out.lt; omega) _⟩
  have HVA : Kp (Row V A 95 .u8 (fill 32 [])) := ⟨by rw [hV]; exact Row.otherRow (Row.alloc HRA4.out z25) (by have := HRA4.out.lt; omega) _⟩
  have HBV : Kp (Below w.heap.size w V) := ⟨by rw [hV]; exact Below.row (more HB4.out z25) HB4.out.size _⟩
  have HH : Kp (HoldsB V V.heap.size (.slice (some ⟨w4.heap.size, 0, none⟩) 32 32) I) := ⟨by
    have h := HoldsB.ofBytes HVI.out HIB.out (by rw [HI.out]; decide)
    rw [HI.out] at h
    exact h⟩
  have HRL := Kp.mk (digest_len (over B 92 ++ I))
  clear h4
  go_wp2_with (refine wpList_store_row rfl 95 (.tmp 6) (.tmp 12) rfl w4.heap.size (kv .u8 I).toArray rfl rfl 95 _ (Blk.new w4 z25) HCI.out HZI.out (kv_all _ _) ?_; refine wpl_world (· = V) hV.symm ?_; intro W0 e; rw [e]; clear e)
  refine wp_region_any (by kernel_rfl) ?_
  change wpAny _ _ _ _ _ _ _ (World.drew _)
  refine wpAny_take (i := 2) (v := .slice (some ⟨w4.heap.size, 0, none⟩) 32 32) rfl (by kernel_rfl) (by kernel_rfl) (by kernel_rfl) (fun _ _ _ h => h) (Or.inl ⟨by rfl, ?_⟩) ?_
  · have hs := slice25_all
    intro w
    go_simp
  refine wpAny_ready (rs := [0]) (by kernel_rfl) (by simp) ?_
  refine AllReady.cons (o := { dst := some 13, op := Op.load 143 (Operand.tmp 5), type := 143, pos := "mac.go:19", after := #[], guard := none }) rfl (fun K hK => ?_) AllReady.nil
  rw [if_pos (by simp [Region.wanted])]
  refine wp_load_row 143 (.tmp 5) rfl w2.heap.size rfl 143 (kv .u8 B).toArray (0, 0) _ HVB.out.drew Tryd.underlying143 rfl HC75.out ?_
  refine hK _ _ ?_
  clear hK K
  refine wpAny_ready (rs := [1]) (by kernel_rfl) (by simp) ?_
  refine AllReady.cons (o := { dst := some 14, op := Op.call { callee := Callee.value (Operand.func 108), args := #[Operand.tmp 13, Operand.const (Value.int IntKind.u8 92)], argTypes := #[143, 5] }, type := 32, pos := "mac.go:19", after := #[{ on := 0, ground := Ground.data }], guard := none }) rfl (fun K hK => ?_) AllReady.nil
  go_simp
  rw [← hV]
  refine (overlaid_any B 92 V.drew HBL.out).mono ?_
  rintro r w5 ⟨rfl, h5, h5b⟩
  refine hK _ _ ?_
  clear hK K
  have h5c : Below V.heap.size V w5 := below_drew2 h5b
  have hVs : V.drew.heap.size = w4.heap.size + 1 := by
    rw [hV]
    show ((w4.alloc z25).setRow w4.heap.size (kv .u8 I).toArray).heap.size = _
    simp [World.setRow]
  rw [hVs] at h5
  have HO2 := Kp.mk h5
  clear hVs
  have HB5 : Kp (Below w.heap.size w w5) := ⟨HBV.out.trans (h5c.mono HBV.out.size)⟩
  have HOM : Kp ((over B 92).length = 64) := ⟨by rw [over_len, HBL.out]⟩
  have HVA5 := Kp.mk (HVA.out.keep h5c)
  have HH5 := Kp.mk (HH.out.keep h5c)
  clear h5 h5b h5c
  refine wpAny_ready (rs := [3]) (by kernel_rfl) (by simp) ?_
  refine AllReady.cons (o := { dst := some 16, op := Op.call { callee := Callee.value (Operand.func 107), args := #[Operand.tmp 14, Operand.tmp 15], argTypes := #[32, 32] }, type := 95, pos := "mac.go:19", after := #[{ on := 1, ground := Ground.data }, { on := 2, ground := Ground.data }, { on := 1, ground := Ground.chain }], guard := none }) rfl (fun K hK => ?_) AllReady.nil
  go_simp
  refine (msum_any w5.heap.size V.heap.size (.slice (some ⟨w4.heap.size + 1, 0, none⟩) 64 64) (.slice (some ⟨w4.heap.size, 0, none⟩) 32 32) (over B 92) I w5 (HK.out.keep HB5.out) HO2.out HH5.out (by rw [HOM.out, HI.out]; omega)).mono ?_
  rintro r w6 ⟨rfl, h6⟩
  refine hK _ _ ?_
  clear hK K
  have HB6 : Kp (Below w.heap.size w w6) := ⟨HB5.out.trans (h6.mono HB5.out.size)⟩
  have HVA6 := Kp.mk (HVA5.out.keep h6)
  have HCR := Kp.mk (cells25 HRL.out)
  have HZR : Kp ((kv .u8 (fill 32 [])).toArray.size = (kv .u8 (digest (over B 92 ++ I))).toArray.size) := ⟨by rw [kv_size, kv_size, HRL.out]; rfl⟩
  rw [← HE.out] at HCR HZR ⊢
  clear h6
  refine wpAny_ready (rs := [4]) (by kernel_rfl) (by simp) ?_
  refine AllReady.cons (o := { dst := none, op := Op.store 95 (Operand.tmp 4) (Operand.tmp 16), type := 0, pos := "mac.go:19", after := #[{ on := 3, ground := Ground.data }, { on := 3, ground := Ground.chain }, { on := 0, ground := Ground.phase }, { on := 1, ground := Ground.phase }, { on := 2, ground := Ground.phase }, { on := 3, ground := Ground.phase }], guard := none }) rfl (fun K hK => ?_) AllReady.nil
  rw [if_pos (by simp [Region.wanted])]
  refine wp_store_row 95 (.tmp 4) (.tmp 16) rfl A (kv .u8 R).toArray rfl rfl 95 _ HVA6.out HCR.out HZR.out (kv_all _ _) ?_
  refine hK _ _ ?_
  clear hK K
  refine wpAny_done (by kernel_rfl) ?_ _
  have HF := Kp.mk (HVA6.out.setRow R)
  have HBf := Kp.mk (Below.row HB6.out (g := A) (by rw [HA.out]; exact Nat.le_refl _) (kv .u8 R).toArray)
  clear hV
  go_wp2_with fail
  refine bodyPost_ret (v := .agg (kv .u8 R).toArray) ?_ rfl ⟨by rw [HRR.out], HBf.out⟩
  exact results_cell_row rfl _ _ A 95 _ (0, 0) _ rfl HF.out Tryd.underlying95 rfl HCR.out
end Go.Proofs.YtpljjmdkagbjpaaDoor
