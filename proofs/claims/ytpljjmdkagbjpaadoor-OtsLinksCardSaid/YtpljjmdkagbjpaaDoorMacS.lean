/-
  mac.sum, mac.keyBlock.
-/
import Derived.Test.YtpljjmdkagbjpaaDoorMacP
namespace Go.Proofs.YtpljjmdkagbjpaaDoor
open Go.RowKit

set_option maxRecDepth 100000 in
set_option maxHeartbeats 1000000 in
theorem msum_any (M N : Nat) (v u : Value) (p q : List Int) (w : World) (hk : KonIs w) (hp : HoldsB w M v p) (hq : HoldsB w N u q) (hlen : p.length + q.length ≤ 999999999999000) :
    Calls Tryd.prog 107 #[v, u] w fun r w' => r = .returned (.agg (kv .u8 (digest (p ++ q))).toArray) ∧ Below w.heap.size w w' := by
  have HK := Kp.mk hk
  have HP := Kp.mk hp
  have HQ := Kp.mk hq
  have HL := Kp.mk hlen
  have HC25 := Kp.mk (cells25 (digest_len (p ++ q)))
  have HZ25 : Kp ((kv .u8 (fill 32 [])).toArray.size = (kv .u8 (digest (p ++ q))).toArray.size) := ⟨by rw [kv_size, kv_size, digest_len]; rfl⟩
  have hpos := hk.pos
  have HPo := Kp.mk hpos
  clear hk hp hq hlen hpos
  go_enter Tryd.func107, Tryd.ntmps107
  go_wp2_with fail
  refine calls_world (fun W => Row W w.heap.size 95 .u8 (fill 32 []) ∧ Below w.heap.size w W ∧ w.heap.size < W.heap.size) ⟨Blk.newAt (w := w) z25 rfl, more (Below.refl _ _) z25, by simp⟩ ?_
  rintro w1 ⟨hr, hb, hs⟩
  have HR := Kp.mk hr
  have HB := Kp.mk hb
  have HS := Kp.mk hs
  clear hr hb hs
  refine (new_any w1).mono ?_
  rintro r w2 ⟨rfl, hh, hb⟩
  have HH := Kp.mk hh
  have HB2 := Kp.mk hb
  have HX : Kp (HoldsX w2 w1.heap.size v p) := ⟨HP.out.apart (HB.out.trans (hb.mono HB.out.size)) HB.out.size⟩
  have HY : Kp (HoldsX w2 w1.heap.size u q) := ⟨HQ.out.apart (HB.out.trans (hb.mono HB.out.size)) HB.out.size⟩
  clear hh hb
  go_wp2_with fail
  refine (write_any w1.heap.size [] p v w2 ((HK.out.keep HB.out).keep HB2.out) (by have := HS.out; omega) HH.out HX.out (by have := HL.out; simp; omega)).mono ?_
  rintro r w3 ⟨rfl, h3⟩
  have H3 := Kp.mk h3
  have HT3 : Kp (Below w1.heap.size w1 w3 ∧ HoldsX w3 w1.heap.size u q) := by
    obtain ⟨_, _, _, _, t⟩ := h3
    exact ⟨HB2.out.trans (t.below (Nat.le_refl _) HB2.out.size), HY.out.turn t⟩
  clear h3
  go_wp2_with fail
  refine (write_any w1.heap.size p q u w3 ((HK.out.keep HB.out).keep HT3.out.1) (by have := HS.out; omega) H3.out.is HT3.out.2 (by have := HL.out; omega)).mono ?_
  rintro r w5 ⟨rfl, h5⟩
  have H5 := Kp.mk h5
  have HT5 : Kp (Below w1.heap.size w1 w5) := by
    obtain ⟨_, _, _, _, t⟩ := h5
    exact ⟨HT3.out.1.trans (t.below (Nat.le_refl _) HT3.out.1.size)⟩
  clear h5
  go_wp2_with fail
  refine (hsum_any w1.heap.size (p ++ q) w5 ((HK.out.keep HB.out).keep HT5.out) (by have := HS.out; omega) H5.out.is (by rw [List.length_append]; exact HL.out)).mono ?_
  rintro r w4 ⟨rfl, h4⟩
  have HB4 : Kp (Below w1.heap.size w1 w4) := ⟨HT5.out.trans (h4.mono HT5.out.size)⟩
  have HR4 := Kp.mk (HR.out.keep HB4.out)
  have HF := Kp.mk (HR4.out.setRow (digest (p ++ q)))
  have HBf := Kp.mk (Below.row (HB.out.trans (HB4.out.mono HB.out.size)) (g := w.heap.size) (Nat.le_refl _) (kv .u8 (digest (p ++ q))).toArray)
  clear h4
  go_wp2_with (refine wpList_store_row rfl 95 (.tmp 4) (.tmp 14) rfl w.heap.size (kv .u8 (digest (p ++ q))).toArray rfl rfl 95 _ HR4.out HC25.out HZ25.out (kv_all _ _) ?_)
  refine bodyPost_ret (v := .agg (kv .u8 (digest (p ++ q))).toArray) ?_ rfl ⟨rfl, HBf.out⟩
  exact results_cell_row rfl _ _ w.heap.size 95 _ (0, 0) _ rfl HF.out Tryd.underlying95 rfl HC25.out
end Go.Proofs.YtpljjmdkagbjpaaDoor
