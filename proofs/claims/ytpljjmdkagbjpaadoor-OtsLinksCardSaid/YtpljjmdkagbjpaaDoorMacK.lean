/-
  mac.keyBlock.
-/
import Derived.Test.YtpljjmdkagbjpaaDoorMacS
import Derived.Test.YtpljjmdkagbjpaaDoorWrite
namespace Go.Proofs.YtpljjmdkagbjpaaDoor
open Go.RowKit

theorem slice75_block (b : Nat) (w : World) : (Instr.sliceAt 143 (.pointer (some ⟨b, 0, none⟩)) none none none).run Tryd.prog w = .ok (.slice (some ⟨b, 0, none⟩) 64 64) w := slice75_whole b w
theorem keyb_small {k : List Int} (h : k.length ≤ 64) : keyb k = fill 64 k := by unfold keyb; rw [if_neg (by omega)]
theorem keyb_big {k : List Int} (h : 64 < k.length) : keyb k = fill 64 (digest k) := by unfold keyb; rw [if_pos h]
theorem splice_key (p : List Int) : splice (kv .u8 (fill 64 [])) 0 (kv .u8 p) = kv .u8 (fill 64 p) := by
  unfold splice fill kv
  simp only [List.nil_append, List.take_zero, List.map_append, List.map_replicate, List.length_map, List.length_nil, Nat.zero_add, List.drop_replicate, Nat.sub_zero]
theorem HoldsB.cells {w : World} {M : Nat} {a : Option Addr} {n cap : Nat} {l : List Int} (h : HoldsB w M (.slice a n cap) l) (h0 : 0 < (kv .u8 l).length) : ∃ ad, a = some ad ∧ ∀ j u, (kv .u8 l)[j]? = some u → w.cell? (ad.add j) = some u := h.source h0
set_option maxRecDepth 100000 in
set_option maxHeartbeats 1000000 in
theorem keyBlock_any (M : Nat) (v : Value) (k : List Int) (w : World) (hk : KonIs w) (hp : HoldsB w M v k) (hlen : k.length ≤ 999999999999000) :
    Calls Tryd.prog 106 #[v] w fun r w' => r = .returned (.agg (kv .u8 (keyb k)).toArray) ∧ Below w.heap.size w w' := by
  obtain ⟨a0, n, cap, rfl, hn⟩ := hp.slice
  have HK := Kp.mk hk
  have HP := Kp.mk hp
  have HN := Kp.mk hn
  have HN2 := Kp.mk hlen
  have hnm : n ≤ 999999999999000 := by omega
  have HC75 := Kp.mk (cells75 (keyb_len k))
  have HZ75 : Kp ((kv .u8 (fill 64 [])).toArray.size = (kv .u8 (keyb k)).toArray.size) := ⟨size75 (keyb_len k)⟩
  obtain ⟨A, hA⟩ : ∃ A, A = w.heap.size := ⟨_, rfl⟩
  have HA := Kp.mk hA
  clear hk hp hlen
  by_cases hbig : 64 < n
  · have HBIG : Kp (keyb k = fill 64 (digest k)) := ⟨keyb_big (by omega)⟩
    have HDL := Kp.mk (digest_len k)
    have HDB := Kp.mk (digest_bytes k)
    have HCD := Kp.mk (cells25 (digest_len k))
    have HZD : Kp ((kv .u8 (fill 32 [])).toArray.size = (kv .u8 (digest k)).toArray.size) := ⟨by rw [kv_size, kv_size, digest_len]; rfl⟩
    have hs := slice75_whole
    have hs2 := slice25_all
    clear hn
    go_enter Tryd.func106, Tryd.ntmps106
    go_wp2_with fail
    rw [← hA]
    refine calls_world (fun W => Row W A 143 .u8 (fill 64 []) ∧ Row W (A + 1) 143 .u8 (fill 64 []) ∧ Below w.heap.size w W ∧ A + 1 < W.heap.size) ⟨Row.alloc (Blk.newAt (w := w) z75 hA) _, Blk.newAt (w := w.alloc z75) z75 (by rw [hA]; simp), more (more (Below.refl _ _) z75) z75, by rw [hA]; simp⟩ ?_
    rintro w1 ⟨hr, hr1, hb, hsz⟩
    have HR := Kp.mk hr
    have HR1 := Kp.mk hr1
    have HB := Kp.mk hb
    have HS := Kp.mk hsz
    clear hr hr1 hb hsz hA
    refine (sum_any M _ k w1 (HK.out.keep HB.out) (HP.out.keep HB.out) HN2.out).mono ?_
    rintro r w2 ⟨rfl, h2⟩
    have H2 := Kp.mk h2
    clear h2
    generalize digest k = d at *
    have HSZ2 : Kp (A + 1 < w2.heap.size) := ⟨by have := H2.out.size; have := HS.out; omega⟩
    obtain ⟨W, hW⟩ : ∃ W, W = (w2.alloc z25).setRow w2.heap.size (kv .u8 d).toArray := ⟨_, rfl⟩
    have HB1 : Kp (Row w2 (A + 1) 143 .u8 (fill 64 [])) := ⟨HR1.out.keep H2.out⟩
    have HB0 : Kp (Row w2 A 143 .u8 (fill 64 [])) := ⟨HR.out.keep H2.out⟩
    have HRD : Kp (Row W w2.heap.size 95 .u8 d) := ⟨by rw [hW]; exact Row.setRow (k := .u8) (l := fill 32 []) (Blk.new w2 z25) _⟩
    have HT1 : Kp (Row W (A + 1) 143 .u8 (fill 64 [])) := ⟨by rw [hW]; exact Row.otherRow (Row.alloc HB1.out z25) (by have := HSZ2.out; omega) _⟩
    have HT0 : Kp (Row W A 143 .u8 (fill 64 [])) := ⟨by rw [hW]; exact Row.otherRow (Row.alloc HB0.out z25) (by have := HSZ2.out; omega) _⟩
    have HBW : Kp (Below w.heap.size w W) := ⟨by rw [hW]; exact Below.row (more (HB.out.trans (H2.out.mono HB.out.size)) z25) (by have := HSZ2.out; have := HA.out; omega) _⟩
    have HH : Kp (HoldsB W W.heap.size (.slice (some ⟨w2.heap.size, 0, none⟩) 32 32) d) := ⟨by
      have h := HoldsB.ofBytes HRD.out HDB.out (by rw [HDL.out]; decide)
      rw [HDL.out] at h
      exact h⟩
    go_wp2_with (first
      | (refine wpList_store_row rfl 95 (.tmp 4) (.tmp 9) rfl w2.heap.size (kv .u8 d).toArray rfl rfl 95 _ (Blk.new w2 z25) HCD.out HZD.out (kv_all _ _) ?_; refine wpl_world (· = W) hW.symm ?_; clear hW; intro W0 e; rw [e]; clear e)
      | (refine wpList_copy_turn rfl (.tmp 11) (.tmp 12) 32 32 rfl 5 Tryd.underlying32 info5' _ _ _ _ _ _ rfl rfl (A + 1) 0 (kv .u8 (fill 64 [])) 143 W (Turn.same HT1.out) (kv .u8 d) (by rw [List.length_map, HDL.out]; rfl) (fun h1 => ⟨rfl, HH.out.cells h1⟩) (by rw [List.length_map, List.length_map, HDL.out, fill_len (by simp)]; omega) (kv_one _) ?_))
    intro w3 HT3
    have HR3 : Kp (Row w3 (A + 1) 143 .u8 (keyb k)) := ⟨by rw [HBIG.out]; have h := HT3.out.blk; rw [splice_key] at h; exact h⟩
    have HR0 : Kp (Row w3 A 143 .u8 (fill 64 [])) := ⟨HT3.out.keep HT0.out (by omega)⟩
    have HB3 : Kp (Below w.heap.size w w3) := ⟨HBW.out.trans (HT3.out.below (by have := HA.out; omega) HBW.out.size)⟩
    have HF := Kp.mk (HR0.out.setRow (keyb k))
    have HBf := Kp.mk (Below.row HB3.out (g := A) (by rw [HA.out]; exact Nat.le_refl _) (kv .u8 (keyb k)).toArray)
    clear HT3 hs hs2
    go_wp2_with (first
      | (refine wpList_load_row rfl 143 (.tmp 3) rfl (A + 1) rfl 143 (kv .u8 (keyb k)).toArray (0, 0) _ HR3.out Tryd.underlying143 rfl HC75.out ?_)
      | (refine wpList_store_row rfl 143 (.tmp 2) (.tmp 14) rfl A (kv .u8 (keyb k)).toArray rfl rfl 143 _ HR0.out HC75.out HZ75.out (kv_all _ _) ?_))
    refine bodyPost_ret (v := .agg (kv .u8 (keyb k)).toArray) ?_ rfl ⟨rfl, HBf.out⟩
    exact results_cell_row rfl _ _ A 143 _ (0, 0) _ rfl HF.out Tryd.underlying143 rfl HC75.out
  · have HSM : Kp (keyb k = fill 64 k) := ⟨keyb_small (by omega)⟩
    have hle : n ≤ 64 := by omega
    have hs := slice75_whole
    clear hn hbig
    subst hA
    obtain ⟨W, hW⟩ : ∃ W, W = (w.alloc z75).alloc z75 := ⟨_, rfl⟩
    have HT0 : Kp (Row W w.heap.size 143 .u8 (fill 64 [])) := ⟨by rw [hW]; exact Row.alloc (Blk.newAt (w := w) z75 rfl) _⟩
    have HT1 : Kp (Row W (w.heap.size + 1) 143 .u8 (fill 64 [])) := ⟨by rw [hW]; exact Blk.newAt (w := w.alloc z75) z75 (by simp)⟩
    have HBW : Kp (Below w.heap.size w W) := ⟨by rw [hW]; exact more (more (Below.refl _ _) z75) z75⟩
    have HH := Kp.mk (HP.out.keep HBW.out)
    have HW := Kp.mk hW
    clear hW
    go_enter Tryd.func106, Tryd.ntmps106
    go_wp2_with (refine wpl_world (· = W) HW.out.symm ?_; intro W0 e; rw [e]; clear e; refine wpList_copy_turn rfl (.tmp 11) (.tmp 12) 32 32 rfl 5 Tryd.underlying32 info5' _ _ _ _ _ _ rfl rfl (w.heap.size + 1) 0 (kv .u8 (fill 64 [])) 143 W (Turn.same HT1.out) (kv .u8 k) (by rw [List.length_map, ← HN.out]; exact (Nat.min_eq_left hle).symm) (fun h1 => ⟨rfl, HH.out.cells h1⟩) (by rw [List.length_map, List.length_map, ← HN.out, fill_len (by simp)]; omega) (kv_one _) ?_)
    intro w3 HT3
    have HR3 : Kp (Row w3 (w.heap.size + 1) 143 .u8 (keyb k)) := ⟨by rw [HSM.out]; have h := HT3.out.blk; rw [splice_key] at h; exact h⟩
    have HR0 : Kp (Row w3 w.heap.size 143 .u8 (fill 64 [])) := ⟨HT3.out.keep HT0.out (by omega)⟩
    have HB3 : Kp (Below w.heap.size w w3) := ⟨HBW.out.trans (HT3.out.below (Nat.le_succ _) HBW.out.size)⟩
    have HF := Kp.mk (HR0.out.setRow (keyb k))
    have HBf := Kp.mk (Below.row HB3.out (g := w.heap.size) (Nat.le_refl _) (kv .u8 (keyb k)).toArray)
    clear HT3 hs
    go_wp2_with (first
      | (refine wpList_load_row rfl 143 (.tmp 3) rfl (w.heap.size + 1) rfl 143 (kv .u8 (keyb k)).toArray (0, 0) _ HR3.out Tryd.underlying143 rfl HC75.out ?_)
      | (refine wpList_store_row rfl 143 (.tmp 2) (.tmp 14) rfl w.heap.size (kv .u8 (keyb k)).toArray rfl rfl 143 _ HR0.out HC75.out HZ75.out (kv_all _ _) ?_))
    refine bodyPost_ret (v := .agg (kv .u8 (keyb k)).toArray) ?_ rfl ⟨rfl, HBf.out⟩
    exact results_cell_row rfl _ _ w.heap.size 143 _ (0, 0) _ rfl HF.out Tryd.underlying143 rfl HC75.out
end Go.Proofs.YtpljjmdkagbjpaaDoor
