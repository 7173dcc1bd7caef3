/-
  Tags: plain lists; mac.keyBlock, mac.overlaid, mac.sum.
  mac.sum, mac.keyBlock.
  mac.keyBlock.
  mac.Mac.
  mac.half, mac.Tag.
  mac.Tag, the document's Half.
  mac.Short.
  The words of a block, as the document's answer makes them: plain lists.
  The document's Block.
  The document's First and K.
  The document's Sum.
  The document's Sum, walked.
  The document's Text and Short.
-/
import Derived.Test.YtibbinenhmiclaaDoorSn03
import Derived.Deep.RegionLaw
import Derived.Laws.CopyOwn
import Derived.Deep.RegionWith
namespace Go.Proofs.YtibbinenhmiclaaDoor
open Go.RowKit

/-- A key's block. -/
def keyb (k : List Int) : List Int := fill 64 (if 64 < k.length then digest k else k)
theorem keyb_len (k : List Int) : (keyb k).length = 64 := by
  unfold keyb
  split
  · rw [fill_len (by rw [digest_len]; omega)]
  · rw [fill_len (by omega)]
theorem fill_bytes {n : Nat} {l : List Int} (h : Bytes l) : Bytes (fill n l) := h.append (zeros_bytes _)
theorem keyb_bytes {k : List Int} (h : Bytes k) : Bytes (keyb k) := by
  unfold keyb
  split
  · exact fill_bytes (digest_bytes _)
  · exact fill_bytes h
/-- Each byte laid over with x. -/
def over (l : List Int) (x : Int) : List Int := l.map fun b => bits .xor .u8 b x
theorem over_len (l : List Int) (x : Int) : (over l x).length = l.length := by simp [over]
theorem bits_u8r (op : BinOp) (x y : Int) : 0 ≤ bits op .u8 x y ∧ bits op .u8 x y ≤ 255 := by
  unfold bits
  simp only [IntKind.wrap_u8']
  omega
theorem over_bytes (l : List Int) (x : Int) : Bytes (over l x) := by
  intro y hy
  unfold over at hy
  obtain ⟨b, _, rfl⟩ := List.mem_map.1 hy
  exact bits_u8r _ _ _
/-- A message's tag by a key. -/
def macL (k p : List Int) : List Int := digest (over (keyb k) 92 ++ digest (over (keyb k) 54 ++ p))
theorem info75 : (Tryd.prog.info? 155).map (·.size) = some 64 := by kernel_rfl
theorem cells75 {l : List Int} (h : l.length = 64) : (Tryd.prog.info? 155).map (·.size) = some (kv .u8 l).toArray.size := by rw [info75, kv_size, h]
abbrev z75 : Obj := .cells (kv .u8 (fill 64 [])).toArray 155
theorem size75 {l : List Int} (h : l.length = 64) : (kv .u8 (fill 64 [])).toArray.size = (kv .u8 l).toArray.size := by rw [kv_size, kv_size, h]; rfl
set_option maxRecDepth 100000 in
theorem slice75_whole (b : Nat) (w : World) : (Instr.sliceAt 155 (.pointer (some ⟨b, 0, none⟩)) none none none).run Tryd.prog w = .ok (.slice (some ⟨b, 0, none⟩) 64 64) w := by
  have hl : Tryd.prog.arrayLen 155 = 64 := by kernel_rfl
  have he : Tryd.prog.elem 155 = 5 := by kernel_rfl
  rw [run_sliceAt_array_all (ht := Tryd.underlying155), hl, he, size5]
  rfl
/-- l with its first k numbers laid over. -/
def ovr (l : List Int) (x : Int) (k : Nat) : List Int := (over l x).take k ++ l.drop k
theorem ovr_len (l : List Int) (x : Int) (k : Nat) (h : k ≤ l.length) : (ovr l x k).length = l.length := by simp [ovr, over_len]; omega
theorem ovr_get (l : List Int) (x : Int) (k : Nat) (h : k < l.length) : (ovr l x k).getD k 0 = l.getD k 0 := by
  unfold ovr
  rw [List.getD_eq_getElem?_getD, List.getElem?_append_right (by rw [List.length_take, over_len]; omega), List.length_take, over_len, Nat.min_eq_left (Nat.le_of_lt h), Nat.sub_self, List.getElem?_drop, Nat.add_zero, ← List.getD_eq_getElem?_getD]
theorem ovr_set (l : List Int) (x : Int) (k : Nat) (h : k < l.length) : (ovr l x k).set k (bits .xor .u8 (l.getD k 0) x) = ovr l x (k + 1) := by
  unfold ovr
  have e1 : ((over l x).take k).length = k := by rw [List.length_take, over_len]; omega
  rw [List.set_append_right _ _ (by omega), e1, Nat.sub_self]
  have e2 : l.drop k = l.getD k 0 :: l.drop (k + 1) := by
    rw [List.drop_eq_getElem_cons h, List.getD_eq_getElem?_getD, List.getElem?_eq_getElem h]
    rfl
  have e3 : (over l x).take (k + 1) = (over l x).take k ++ [bits .xor .u8 (l.getD k 0) x] := by
    rw [List.take_succ_eq_append_getElem (by rw [over_len]; exact h), List.getD_eq_getElem?_getD, List.getElem?_eq_getElem h]
    simp [over]
  rw [e2, List.set_cons_zero, e3, List.append_assoc]
  rfl
theorem ovr_zero (l : List Int) (x : Int) : ovr l x 0 = l := by simp [ovr]
theorem ovr_full (l : List Int) (x : Int) : ovr l x l.length = over l x := by
  unfold ovr
  rw [List.take_of_length_le (by rw [over_len]; exact Nat.le_refl _), List.drop_of_length_le (Nat.le_refl _), List.append_nil]
set_option maxRecDepth 100000 in
set_option maxHeartbeats 1000000 in
theorem overlaid_any (l : List Int) (x : Int) (w : World) (hl : l.length = 64) :
    Calls Tryd.prog 94 #[.agg (kv .u8 l).toArray, .int .u8 x] w fun r w' => r = .returned (.slice (some ⟨w.heap.size, 0, none⟩) 64 64) ∧ HoldsB w' w'.heap.size (.slice (some ⟨w.heap.size, 0, none⟩) 64 64) (over l x) ∧ Below w.heap.size w w' := by
  have HL := Kp.mk hl
  have hs := slice75_whole w.heap.size
  clear hl
  go_enter Tryd.func94, Tryd.ntmps94
  go_wp2_with fail
  obtain ⟨A, hA⟩ : ∃ A, A = w.heap.size := ⟨_, rfl⟩
  rw [← hA] at hs ⊢
  have HA := Kp.mk hA
  go_loopw [6] (fun c wr => ∃ k : Nat, k ≤ 64 ∧ c = .int .i64 k ∧ Row wr A 155 .u8 (ovr l x k) ∧ Below A w wr) (fun c _ => 64 - (intOf c).toNat)
  case atStart => exact ⟨0, by omega, rfl, by rw [ovr_zero]; exact Blk.newAt _ hA, by rw [hA]; exact more (Below.refl _ _) _⟩
  case round =>
    obtain ⟨k, hk, rfl, h1, h2⟩ := hrel
    have G1 := Kp.mk h1
    have G2 := Kp.mk h2
    clear h1 h2 hA
    by_cases hlt : k < 64
    · have cw : wr.cell? ⟨A, k, none⟩ = some (.int .u8 (l.getD k 0)) := by rw [G1.out.cell (by rw [ovr_len _ _ _ (by rw [HL.out]; exact hk), HL.out]; exact hlt), ovr_get _ _ _ (by rw [HL.out]; exact hlt)]
      have fw := G1.out.frozen k
      have HS := Kp.mk (ovr_set l x k (by rw [HL.out]; exact hlt))
      generalize l.getD k 0 = y at *
      go_wp2_with fail
      refine ⟨⟨k + 1, by omega, by go_num, (G1.out.set k _).as HS.out, G2.out.setCell (Nat.le_refl _) _⟩, by simp [intOf]; omega⟩
    · have HK : Kp (k = 64) := ⟨by omega⟩
      have hge : 64 ≤ (k : Int) := by omega
      have HF : Kp (Row wr A 155 .u8 (over l x)) := by
        have h := G1.out
        rw [HK.out, ← HL.out, ovr_full] at h
        exact ⟨h⟩
      clear hlt hk G1
      go_wp2_with fail
      go_ret
      rw [← HA.out]
      refine ⟨rfl, ?_, G2.out⟩
      have h := HoldsB.ofBytes HF.out (over_bytes l x) (by rw [over_len, HL.out]; unfold maxLen; omega)
      rw [over_len, HL.out] at h
      exact h
end Go.Proofs.YtibbinenhmiclaaDoor

namespace Go.Proofs.YtibbinenhmiclaaDoor
open Go.RowKit

set_option maxRecDepth 100000 in
set_option maxHeartbeats 1000000 in
theorem msum_any (M N : Nat) (v u : Value) (p q : List Int) (w : World) (hk : KonIs w) (hp : HoldsB w M v p) (hq : HoldsB w N u q) (hlen : p.length + q.length ≤ 999999999999000) :
    Calls Tryd.prog 93 #[v, u] w fun r w' => r = .returned (.agg (kv .u8 (digest (p ++ q))).toArray) ∧ Below w.heap.size w w' := by
  have HK := Kp.mk hk
  have HP := Kp.mk hp
  have HQ := Kp.mk hq
  have HL := Kp.mk hlen
  have HC25 := Kp.mk (cells25 (digest_len (p ++ q)))
  have HZ25 : Kp ((kv .u8 (fill 32 [])).toArray.size = (kv .u8 (digest (p ++ q))).toArray.size) := ⟨by rw [kv_size, kv_size, digest_len]; rfl⟩
  have hpos := hk.pos
  have HPo := Kp.mk hpos
  clear hk hp hq hlen hpos
  go_enter Tryd.func93, Tryd.ntmps93
  go_wp2_with fail
  refine calls_world (fun W => Row W w.heap.size 70 .u8 (fill 32 []) ∧ Below w.heap.size w W ∧ w.heap.size < W.heap.size) ⟨Blk.newAt (w := w) z25 rfl, more (Below.refl _ _) z25, by simp⟩ ?_
  rintro w1 ⟨hr, hb, hs⟩
  have HR := Kp.mk hr
  have HB := Kp.mk hb
  have HS := Kp.mk hs
  clear hr hb hs
  refine (new_any w1).mono ?_
  rintro r w2 ⟨rfl, hh, hb⟩
  have HH := Kp.mk hh
  have HB2 := Kp.mk hb
  have HX : Kp (HoldsX w2 w1.heap.size v p) := ⟨HP.out.apart (HB.out.trans (hb.mono HB.out.size)) HB.out.size⟩
  have HY : Kp (HoldsX w2 w1.heap.size u q) := ⟨HQ.out.apart (HB.out.trans (hb.mono HB.out.size)) HB.out.size⟩
  clear hh hb
  go_wp2_with fail
  refine (write_any w1.heap.size [] p v w2 ((HK.out.keep HB.out).keep HB2.out) (by have := HS.out; omega) HH.out HX.out (by have := HL.out; simp; omega)).mono ?_
  rintro r w3 ⟨rfl, h3⟩
  have H3 := Kp.mk h3
  have HT3 : Kp (Below w1.heap.size w1 w3 ∧ HoldsX w3 w1.heap.size u q) := by
    obtain ⟨_, _, _, _, t⟩ := h3
    exact ⟨HB2.out.trans (t.below (Nat.le_refl _) HB2.out.size), HY.out.turn t⟩
  clear h3
  go_wp2_with fail
  refine (write_any w1.heap.size p q u w3 ((HK.out.keep HB.out).keep HT3.out.1) (by have := HS.out; omega) H3.out.is HT3.out.2 (by have := HL.out; omega)).mono ?_
  rintro r w5 ⟨rfl, h5⟩
  have H5 := Kp.mk h5
  have HT5 : Kp (Below w1.heap.size w1 w5) := by
    obtain ⟨_, _, _, _, t⟩ := h5
    exact ⟨HT3.out.1.trans (t.below (Nat.le_refl _) HT3.out.1.size)⟩
  clear h5
  go_wp2_with fail
  refine (hsum_any w1.heap.size (p ++ q) w5 ((HK.out.keep HB.out).keep HT5.out) (by have := HS.out; omega) H5.out.is (by rw [List.length_append]; exact HL.out)).mono ?_
  rintro r w4 ⟨rfl, h4⟩
  have HB4 : Kp (Below w1.heap.size w1 w4) := ⟨HT5.out.trans (h4.mono HT5.out.size)⟩
  have HR4 := Kp.mk (HR.out.keep HB4.out)
  have HF := Kp.mk (HR4.out.setRow (digest (p ++ q)))
  have HBf := Kp.mk (Below.row (HB.out.trans (HB4.out.mono HB.out.size)) (g := w.heap.size) (Nat.le_refl _) (kv .u8 (digest (p ++ q))).toArray)
  clear h4
  go_wp2_with (refine wpList_store_row rfl 70 (.tmp 4) (.tmp 14) rfl w.heap.size (kv .u8 (digest (p ++ q))).toArray rfl rfl 70 _ HR4.out HC25.out HZ25.out (kv_all _ _) ?_)
  refine bodyPost_ret (v := .agg (kv .u8 (digest (p ++ q))).toArray) ?_ rfl ⟨rfl, HBf.out⟩
  exact results_cell_row rfl _ _ w.heap.size 70 _ (0, 0) _ rfl HF.out Tryd.underlying70 rfl HC25.out
end Go.Proofs.YtibbinenhmiclaaDoor

namespace Go.Proofs.YtibbinenhmiclaaDoor
open Go.RowKit

theorem slice75_block (b : Nat) (w : World) : (Instr.sliceAt 155 (.pointer (some ⟨b, 0, none⟩)) none none none).run Tryd.prog w = .ok (.slice (some ⟨b, 0, none⟩) 64 64) w := slice75_whole b w
theorem keyb_small {k : List Int} (h : k.length ≤ 64) : keyb k = fill 64 k := by unfold keyb; rw [if_neg (by omega)]
theorem keyb_big {k : List Int} (h : 64 < k.length) : keyb k = fill 64 (digest k) := by unfold keyb; rw [if_pos h]
theorem splice_key (p : List Int) : splice (kv .u8 (fill 64 [])) 0 (kv .u8 p) = kv .u8 (fill 64 p) := by
  unfold splice fill kv
  simp only [List.nil_append, List.take_zero, List.map_append, List.map_replicate, List.length_map, List.length_nil, Nat.zero_add, List.drop_replicate, Nat.sub_zero]
theorem HoldsB.cells {w : World} {M : Nat} {a : Option Addr} {n cap : Nat} {l : List Int} (h : HoldsB w M (.slice a n cap) l) (h0 : 0 < (kv .u8 l).length) : ∃ ad, a = some ad ∧ ∀ j u, (kv .u8 l)[j]? = some u → w.cell? (ad.add j) = some u := h.source h0
set_option maxRecDepth 100000 in
set_option maxHeartbeats 1000000 in
theorem keyBlock_any (M : Nat) (v : Value) (k : List Int) (w : World) (hk : KonIs w) (hp : HoldsB w M v k) (hlen : k.length ≤ 999999999999000) :
    Calls Tryd.prog 92 #[v] w fun r w' => r = .returned (.agg (kv .u8 (keyb k)).toArray) ∧ Below w.heap.size w w' := by
  obtain ⟨a0, n, cap, rfl, hn⟩ := hp.slice
  have HK := Kp.mk hk
  have HP := Kp.mk hp
  have HN := Kp.mk hn
  have HN2 := Kp.mk hlen
  have hnm : n ≤ 999999999999000 := by omega
  have HC75 := Kp.mk (cells75 (keyb_len k))
  have HZ75 : Kp ((kv .u8 (fill 64 [])).toArray.size = (kv .u8 (keyb k)).toArray.size) := ⟨size75 (keyb_len k)⟩
  obtain ⟨A, hA⟩ : ∃ A, A = w.heap.size := ⟨_, rfl⟩
  have HA := Kp.mk hA
  clear hk hp hlen
  by_cases hbig : 64 < n
  · have HBIG : Kp (keyb k = fill 64 (digest k)) := ⟨keyb_big (by omega)⟩
    have HDL := Kp.mk (digest_len k)
    have HDB := Kp.mk (digest_bytes k)
    have HCD := Kp.mk (cells25 (digest_len k))
    have HZD : Kp ((kv .u8 (fill 32 [])).toArray.size = (kv .u8 (digest k)).toArray.size) := ⟨by rw [kv_size, kv_size, digest_len]; rfl⟩
    have hs := slice75_whole
    have hs2 := slice25_all
    clear hn
    go_enter Tryd.func92, Tryd.ntmps92
    go_wp2_with fail
    rw [← hA]
    refine calls_world (fun W => Row W A 155 .u8 (fill 64 []) ∧ Row W (A + 1) 155 .u8 (fill 64 []) ∧ Below w.heap.size w W ∧ A + 1 < W.heap.size) ⟨Row.alloc (Blk.newAt (w := w) z75 hA) _, Blk.newAt (w := w.alloc z75) z75 (by rw [hA]; simp), more (more (Below.refl _ _) z75) z75, by rw [hA]; simp⟩ ?_
    rintro w1 ⟨hr, hr1, hb, hsz⟩
    have HR := Kp.mk hr
    have HR1 := Kp.mk hr1
    have HB := Kp.mk hb
    have HS := Kp.mk hsz
    clear hr hr1 hb hsz hA
    refine (sum_any M _ k w1 (HK.out.keep HB.out) (HP.out.keep HB.out) HN2.out).mono ?_
    rintro r w2 ⟨rfl, h2⟩
    have H2 := Kp.mk h2
    clear h2
    generalize digest k = d at *
    have HSZ2 : Kp (A + 1 < w2.heap.size) := ⟨by have := H2.out.size; have := HS.out; omega⟩
    obtain ⟨W, hW⟩ : ∃ W, W = (w2.alloc z25).setRow w2.heap.size (kv .u8 d).toArray := ⟨_, rfl⟩
    have HB1 : Kp (Row w2 (A + 1) 155 .u8 (fill 64 [])) := ⟨HR1.out.keep H2.out⟩
    have HB0 : Kp (Row w2 A 155 .u8 (fill 64 [])) := ⟨HR.out.keep H2.out⟩
    have HRD : Kp (Row W w2.heap.size 70 .u8 d) := ⟨by rw [hW]; exact Row.setRow (k := .u8) (l := fill 32 []) (Blk.new w2 z25) _⟩
    have HT1 : Kp (Row W (A + 1) 155 .u8 (fill 64 [])) := ⟨by rw [hW]; exact Row.otherRow (Row.alloc HB1.out z25) (by have := HSZ2.out; omega) _⟩
    have HT0 : Kp (Row W A 155 .u8 (fill 64 [])) := ⟨by rw [hW]; exact Row.otherRow (Row.alloc HB0.out z25) (by have := HSZ2.out; omega) _⟩
    have HBW : Kp (Below w.heap.size w W) := ⟨by rw [hW]; exact Below.row (more (HB.out.trans (H2.out.mono HB.out.size)) z25) (by have := HSZ2.out; have := HA.out; omega) _⟩
    have HH : Kp (HoldsB W W.heap.size (.slice (some ⟨w2.heap.size, 0, none⟩) 32 32) d) := ⟨by
      have h := HoldsB.ofBytes HRD.out HDB.out (by rw [HDL.out]; decide)
      rw [HDL.out] at h
      exact h⟩
    go_wp2_with (first
      | (refine wpList_store_row rfl 70 (.tmp 4) (.tmp 9) rfl w2.heap.size (kv .u8 d).toArray rfl rfl 70 _ (Blk.new w2 z25) HCD.out HZD.out (kv_all _ _) ?_; refine wpl_world (· = W) hW.symm ?_; clear hW; intro W0 e; rw [e]; clear e)
      | (refine wpList_copy_turn rfl (.tmp 11) (.tmp 12) 131 131 rfl 5 Tryd.underlying131 info5' _ _ _ _ _ _ rfl rfl (A + 1) 0 (kv .u8 (fill 64 [])) 155 W (Turn.same HT1.out) (kv .u8 d) (by rw [List.length_map, HDL.out]; rfl) (fun h1 => ⟨rfl, HH.out.cells h1⟩) (by rw [List.length_map, List.length_map, HDL.out, fill_len (by simp)]; omega) (kv_one _) ?_))
    intro w3 HT3
    have HR3 : Kp (Row w3 (A + 1) 155 .u8 (keyb k)) := ⟨by rw [HBIG.out]; have h := HT3.out.blk; rw [splice_key] at h; exact h⟩
    have HR0 : Kp (Row w3 A 155 .u8 (fill 64 [])) := ⟨HT3.out.keep HT0.out (by omega)⟩
    have HB3 : Kp (Below w.heap.size w w3) := ⟨HBW.out.trans (HT3.out.below (by have := HA.out; omega) HBW.out.size)⟩
    have HF := Kp.mk (HR0.out.setRow (keyb k))
    have HBf := Kp.mk (Below.row HB3.out (g := A) (by rw [HA.out]; exact Nat.le_refl _) (kv .u8 (keyb k)).toArray)
    clear HT3 hs hs2
    go_wp2_with (first
      | (refine wpList_load_row rfl 155 (.tmp 3) rfl (A + 1) rfl 155 (kv .u8 (keyb k)).toArray (0, 0) _ HR3.out Tryd.underlying155 rfl HC75.out ?_)
      | (refine wpList_store_row rfl 155 (.tmp 2) (.tmp 14) rfl A (kv .u8 (keyb k)).toArray rfl rfl 155 _ HR0.out HC75.out HZ75.out (kv_all _ _) ?_))
    refine bodyPost_ret (v := .agg (kv .u8 (keyb k)).toArray) ?_ rfl ⟨rfl, HBf.out⟩
    exact results_cell_row rfl _ _ A 155 _ (0, 0) _ rfl HF.out Tryd.underlying155 rfl HC75.out
  · have HSM : Kp (keyb k = fill 64 k) := ⟨keyb_small (by omega)⟩
    have hle : n ≤ 64 := by omega
    have hs := slice75_whole
    clear hn hbig
    subst hA
    obtain ⟨W, hW⟩ : ∃ W, W = (w.alloc z75).alloc z75 := ⟨_, rfl⟩
    have HT0 : Kp (Row W w.heap.size 155 .u8 (fill 64 [])) := ⟨by rw [hW]; exact Row.alloc (Blk.newAt (w := w) z75 rfl) _⟩
    have HT1 : Kp (Row W (w.heap.size + 1) 155 .u8 (fill 64 [])) := ⟨by rw [hW]; exact Blk.newAt (w := w.alloc z75) z75 (by simp)⟩
    have HBW : Kp (Below w.heap.size w W) := ⟨by rw [hW]; exact more (more (Below.refl _ _) z75) z75⟩
    have HH := Kp.mk (HP.out.keep HBW.out)
    have HW := Kp.mk hW
    clear hW
    go_enter Tryd.func92, Tryd.ntmps92
    go_wp2_with (refine wpl_world (· = W) HW.out.symm ?_; intro W0 e; rw [e]; clear e; refine wpList_copy_turn rfl (.tmp 11) (.tmp 12) 131 131 rfl 5 Tryd.underlying131 info5' _ _ _ _ _ _ rfl rfl (w.heap.size + 1) 0 (kv .u8 (fill 64 [])) 155 W (Turn.same HT1.out) (kv .u8 k) (by rw [List.length_map, ← HN.out]; exact (Nat.min_eq_left hle).symm) (fun h1 => ⟨rfl, HH.out.cells h1⟩) (by rw [List.length_map, List.length_map, ← HN.out, fill_len (by simp)]; omega) (kv_one _) ?_)
    intro w3 HT3
    have HR3 : Kp (Row w3 (w.heap.size + 1) 155 .u8 (keyb k)) := ⟨by rw [HSM.out]; have h := HT3.out.blk; rw [splice_key] at h; exact h⟩
    have HR0 : Kp (Row w3 w.heap.size 155 .u8 (fill 64 [])) := ⟨HT3.out.keep HT0.out (by omega)⟩
    have HB3 : Kp (Below w.heap.size w w3) := ⟨HBW.out.trans (HT3.out.below (Nat.le_succ _) HBW.out.size)⟩
    have HF := Kp.mk (HR0.out.setRow (keyb k))
    have HBf := Kp.mk (Below.row HB3.out (g := w.heap.size) (Nat.le_refl _) (kv .u8 (keyb k)).toArray)
    clear HT3 hs
    go_wp2_with (first
      | (refine wpList_load_row rfl 155 (.tmp 3) rfl (w.heap.size + 1) rfl 155 (kv .u8 (keyb k)).toArray (0, 0) _ HR3.out Tryd.underlying155 rfl HC75.out ?_)
      | (refine wpList_store_row rfl 155 (.tmp 2) (.tmp 14) rfl w.heap.size (kv .u8 (keyb k)).toArray rfl rfl 155 _ HR0.out HC75.out HZ75.out (kv_all _ _) ?_))
    refine bodyPost_ret (v := .agg (kv .u8 (keyb k)).toArray) ?_ rfl ⟨rfl, HBf.out⟩
    exact results_cell_row rfl _ _ w.heap.size 155 _ (0, 0) _ rfl HF.out Tryd.underlying155 rfl HC75.out
end Go.Proofs.YtibbinenhmiclaaDoor

namespace Go.Proofs.YtibbinenhmiclaaDoor
open Go.RowKit

theorem below_drew2 {B : Nat} {w w' : World} (h : Below B w.drew w') : Below B w w' := ⟨h.os, h.tape, h.output, h.size, h.block⟩
set_option maxRecDepth 100000 in
set_option maxHeartbeats 2000000 in
theorem mac_any (M N : Nat) (v u : Value) (k p : List Int) (w : World) (hk : KonIs w) (hp : HoldsB w M v k) (hq : HoldsB w N u p) (hlen : k.length ≤ 999999999999000) (hlen2 : p.length ≤ 999999999990000) :
    Calls Tryd.prog 78 #[v, u] w fun r w' => r = .returned (.agg (kv .u8 (macL k p)).toArray) ∧ Below w.heap.size w w' := by
  have HK := Kp.mk hk
  have HP := Kp.mk hp
  have HQ := Kp.mk hq
  have HL := Kp.mk hlen
  have HL2 := Kp.mk hlen2
  obtain ⟨A, hA⟩ : ∃ A, A = w.heap.size := ⟨_, rfl⟩
  have HA := Kp.mk hA
  clear hk hp hq hlen hlen2
  go_enter Tryd.func78, Tryd.ntmps78
  go_wp2_with fail
  rw [← hA]
  refine calls_world (fun W => Row W A 70 .u8 (fill 32 []) ∧ Below w.heap.size w W ∧ A < W.heap.size) ⟨Blk.newAt (w := w) z25 hA, more (Below.refl _ _) z25, by rw [hA]; simp⟩ ?_
  rintro w1 ⟨hr, hb, hsz⟩
  have HR := Kp.mk hr
  have HB := Kp.mk hb
  have HS := Kp.mk hsz
  clear hr hb hsz hA
  refine (keyBlock_any M v k w1 (HK.out.keep HB.out) (HP.out.keep HB.out) HL.out).mono ?_
  rintro r w2 ⟨rfl, h2⟩
  have HE : Kp (macL k p = digest (over (keyb k) 92 ++ digest (over (keyb k) 54 ++ p))) := ⟨rfl⟩
  have HBL := Kp.mk (keyb_len k)
  have H2 := Kp.mk h2
  clear h2
  obtain ⟨R, hR⟩ : ∃ R, R = macL k p := ⟨_, rfl⟩
  rw [← hR] at HE
  have HRR := Kp.mk hR
  clear hR
  generalize keyb k = B at *
  have HSB : Kp (A < w2.heap.size) := ⟨by have := H2.out.size; have := HS.out; omega⟩
  obtain ⟨W, hW⟩ : ∃ W, W = (w2.alloc z75).setRow w2.heap.size (kv .u8 B).toArray := ⟨_, rfl⟩
  have HRB : Kp (Row W w2.heap.size 155 .u8 B) := ⟨by rw [hW]; exact Row.setRow (k := .u8) (l := fill 64 []) (Blk.new w2 z75) _⟩
  have HRA : Kp (Row W A 70 .u8 (fill 32 [])) := ⟨by rw [hW]; exact Row.otherRow (Row.alloc (HR.out.keep H2.out) z75) (by have := HSB.out; omega) _⟩
  have HBW : Kp (Below w.heap.size w W) := ⟨by rw [hW]; exact Below.row (more (HB.out.trans (H2.out.mono HB.out.size)) z75) (by have := HSB.out; have := HA.out; omega) _⟩
  have HC75 := Kp.mk (cells75 HBL.out)
  have HZ75 : Kp ((kv .u8 (fill 64 [])).toArray.size = (kv .u8 B).toArray.size) := ⟨size75 HBL.out⟩
  have HDW : Kp (w2.heap.size < W.heap.size) := ⟨HRB.out.lt⟩
  go_wp2_with (first
    | (refine wpList_store_row rfl 155 (.tmp 5) (.tmp 8) rfl w2.heap.size (kv .u8 B).toArray rfl rfl 155 _ (Blk.new w2 z75) HC75.out HZ75.out (kv_all _ _) ?_; refine wpl_world (· = W) hW.symm ?_; clear hW; intro W0 e; rw [e]; clear e)
    | (refine wpList_load_row rfl 155 (.tmp 5) rfl w2.heap.size rfl 155 (kv .u8 B).toArray (0, 0) _ HRB.out Tryd.underlying155 rfl HC75.out ?_))
  refine (overlaid_any B 54 W HBL.out).mono ?_
  rintro r w3 ⟨rfl, h3, h3b⟩
  have HO1 := Kp.mk h3
  have HB3 : Kp (Below w.heap.size w w3) := ⟨HBW.out.trans (h3b.mono HBW.out.size)⟩
  have HOL : Kp ((over B 54).length = 64) := ⟨by rw [over_len, HBL.out]⟩
  have HRB3 := Kp.mk (HRB.out.keep h3b)
  have HRA3 := Kp.mk (HRA.out.keep h3b)
  have HS3 : Kp (W.heap.size < w3.heap.size) := ⟨(by
    obtain ⟨_, _, e, _, _, _, h5, _⟩ := h3
    simp only [Value.slice.injEq] at e
    have := (h5 _ e.1.symm (by omega)).2.2
    exact this)⟩
  clear h3 h3b
  go_wp2_with fail
  refine (msum_any _ N _ u (over B 54) p w3 (HK.out.keep HB3.out) HO1.out (HQ.out.keep HB3.out) (by rw [HOL.out]; have := HL2.out; omega)).mono ?_
  rintro r w4 ⟨rfl, h4⟩
  have HI := Kp.mk (digest_len (over B 54 ++ p))
  have HIB := Kp.mk (digest_bytes (over B 54 ++ p))
  have HB4 : Kp (Below w.heap.size w w4) := ⟨HB3.out.trans (h4.mono HB3.out.size)⟩
  have HRB4 := Kp.mk (HRB3.out.keep h4)
  have HRA4 := Kp.mk (HRA3.out.keep h4)
  generalize digest (over B 54 ++ p) = I at *
  have HCI := Kp.mk (cells25 HI.out)
  have HZI : Kp ((kv .u8 (fill 32 [])).toArray.size = (kv .u8 I).toArray.size) := ⟨by rw [kv_size, kv_size, HI.out]; rfl⟩
  obtain ⟨V, hV⟩ : ∃ V, V = (w4.alloc z25).setRow w4.heap.size (kv .u8 I).toArray := ⟨_, rfl⟩
  have HVI : Kp (Row V w4.heap.size 70 .u8 I) := ⟨by rw [hV]; exact Row.setRow (k := .u8) (l := fill 32 []) (Blk.new w4 z25) _⟩
  have HVB : Kp (Row V w2.heap.size 155 .u8 B) := ⟨by rw [hV]; exact Row.otherRow (Row.alloc HRB4.out z25) (by have := HRB4.out.lt; omega) _⟩
  have HVA : Kp (Row V A 70 .u8 (fill 32 [])) := ⟨by rw [hV]; exact Row.otherRow (Row.alloc HRA4.out z25) (by have := HRA4.out.lt; omega) _⟩
  have HBV : Kp (Below w.heap.size w V) := ⟨by rw [hV]; exact Below.row (more HB4.out z25) HB4.out.size _⟩
  have HH : Kp (HoldsB V V.heap.size (.slice (some ⟨w4.heap.size, 0, none⟩) 32 32) I) := ⟨by
    have h := HoldsB.ofBytes HVI.out HIB.out (by rw [HI.out]; decide)
    rw [HI.out] at h
    exact h⟩
  have HRL := Kp.mk (digest_len (over B 92 ++ I))
  clear h4
  go_wp2_with (refine wpList_store_row rfl 70 (.tmp 6) (.tmp 12) rfl w4.heap.size (kv .u8 I).toArray rfl rfl 70 _ (Blk.new w4 z25) HCI.out HZI.out (kv_all _ _) ?_; refine wpl_world (· = V) hV.symm ?_; intro W0 e; rw [e]; clear e)
  refine wp_region_any (by kernel_rfl) ?_
  change wpAny _ _ _ _ _ _ _ (World.drew _)
  refine wpAny_take (i := 2) (v := .slice (some ⟨w4.heap.size, 0, none⟩) 32 32) rfl (by kernel_rfl) (by kernel_rfl) (by kernel_rfl) (fun _ _ _ h => h) (Or.inl ⟨by rfl, ?_⟩) ?_
  · have hs := slice25_all
    intro w
    go_simp
  refine wpAny_ready (rs := [0]) (by kernel_rfl) (by simp) ?_
  refine AllReady.cons (o := { dst := some 13, op := Op.load 155 (Operand.tmp 5), type := 155, pos := "mac.go:19", after := #[], guard := none }) rfl (fun K hK => ?_) AllReady.nil
  rw [if_pos (by simp [Region.wanted])]
  refine wp_load_row 155 (.tmp 5) rfl w2.heap.size rfl 155 (kv .u8 B).toArray (0, 0) _ HVB.out.drew Tryd.underlying155 rfl HC75.out ?_
  refine hK _ _ ?_
  clear hK K
  refine wpAny_ready (rs := [1]) (by kernel_rfl) (by simp) ?_
  refine AllReady.cons (o := { dst := some 14, op := Op.call { callee := Callee.value (Operand.func 94), args := #[Operand.tmp 13, Operand.const (Value.int IntKind.u8 92)], argTypes := #[155, 5] }, type := 131, pos := "mac.go:19", after := #[{ on := 0, ground := Ground.data }], guard := none }) rfl (fun K hK => ?_) AllReady.nil
  go_simp
  rw [← hV]
  refine (overlaid_any B 92 V.drew HBL.out).mono ?_
  rintro r w5 ⟨rfl, h5, h5b⟩
  refine hK _ _ ?_
  clear hK K
  have h5c : Below V.heap.size V w5 := below_drew2 h5b
  have hVs : V.drew.heap.size = w4.heap.size + 1 := by
    rw [hV]
    show ((w4.alloc z25).setRow w4.heap.size (kv .u8 I).toArray).heap.size = _
    simp [World.setRow]
  rw [hVs] at h5
  have HO2 := Kp.mk h5
  clear hVs
  have HB5 : Kp (Below w.heap.size w w5) := ⟨HBV.out.trans (h5c.mono HBV.out.size)⟩
  have HOM : Kp ((over B 92).length = 64) := ⟨by rw [over_len, HBL.out]⟩
  have HVA5 := Kp.mk (HVA.out.keep h5c)
  have HH5 := Kp.mk (HH.out.keep h5c)
  clear h5 h5b h5c
  refine wpAny_ready (rs := [3]) (by kernel_rfl) (by simp) ?_
  refine AllReady.cons (o := { dst := some 16, op := Op.call { callee := Callee.value (Operand.func 93), args := #[Operand.tmp 14, Operand.tmp 15], argTypes := #[131, 131] }, type := 70, pos := "mac.go:19", after := #[{ on := 1, ground := Ground.data }, { on := 2, ground := Ground.data }, { on := 1, ground := Ground.chain }], guard := none }) rfl (fun K hK => ?_) AllReady.nil
  go_simp
  refine (msum_any w5.heap.size V.heap.size (.slice (some ⟨w4.heap.size + 1, 0, none⟩) 64 64) (.slice (some ⟨w4.heap.size, 0, none⟩) 32 32) (over B 92) I w5 (HK.out.keep HB5.out) HO2.out HH5.out (by rw [HOM.out, HI.out]; omega)).mono ?_
  rintro r w6 ⟨rfl, h6⟩
  refine hK _ _ ?_
  clear hK K
  have HB6 : Kp (Below w.heap.size w w6) := ⟨HB5.out.trans (h6.mono HB5.out.size)⟩
  have HVA6 := Kp.mk (HVA5.out.keep h6)
  have HCR := Kp.mk (cells25 HRL.out)
  have HZR : Kp ((kv .u8 (fill 32 [])).toArray.size = (kv .u8 (digest (over B 92 ++ I))).toArray.size) := ⟨by rw [kv_size, kv_size, HRL.out]; rfl⟩
  rw [← HE.out] at HCR HZR ⊢
  clear h6
  refine wpAny_ready (rs := [4]) (by kernel_rfl) (by simp) ?_
  refine AllReady.cons (o := { dst := none, op := Op.store 70 (Operand.tmp 4) (Operand.tmp 16), type := 0, pos := "mac.go:19", after := #[{ on := 3, ground := Ground.data }, { on := 3, ground := Ground.chain }, { on := 0, ground := Ground.phase }, { on := 1, ground := Ground.phase }, { on := 2, ground := Ground.phase }, { on := 3, ground := Ground.phase }], guard := none }) rfl (fun K hK => ?_) AllReady.nil
  rw [if_pos (by simp [Region.wanted])]
  refine wp_store_row 70 (.tmp 4) (.tmp 16) rfl A (kv .u8 R).toArray rfl rfl 70 _ HVA6.out HCR.out HZR.out (kv_all _ _) ?_
  refine hK _ _ ?_
  clear hK K
  refine wpAny_done (by kernel_rfl) ?_ _
  have HF := Kp.mk (HVA6.out.setRow R)
  have HBf := Kp.mk (Below.row HB6.out (g := A) (by rw [HA.out]; exact Nat.le_refl _) (kv .u8 R).toArray)
  clear hV
  go_wp2_with fail
  refine bodyPost_ret (v := .agg (kv .u8 R).toArray) ?_ rfl ⟨by rw [HRR.out], HBf.out⟩
  exact results_cell_row rfl _ _ A 70 _ (0, 0) _ rfl HF.out Tryd.underlying70 rfl HCR.out
end Go.Proofs.YtibbinenhmiclaaDoor

namespace Go.Proofs.YtibbinenhmiclaaDoor
open Go.RowKit

/-- A sum's first half. -/
def halfL (d : List Int) : List Int := d.take 16
theorem halfL_len {d : List Int} (h : d.length = 32) : (halfL d).length = 16 := by simp [halfL, h]
theorem info50 : (Tryd.prog.info? 43).map (·.size) = some 16 := by kernel_rfl
theorem cells50 {l : List Int} (h : l.length = 16) : (Tryd.prog.info? 43).map (·.size) = some (kv .u8 l).toArray.size := by rw [info50, kv_size, h]
abbrev z50 : Obj := .cells (kv .u8 (fill 16 [])).toArray 43
theorem size50 {l : List Int} (h : l.length = 16) : (kv .u8 (fill 16 [])).toArray.size = (kv .u8 l).toArray.size := by rw [kv_size, kv_size, h]; rfl
set_option maxRecDepth 100000 in
theorem slice50_all (b : Nat) (w : World) : (Instr.sliceAt 43 (.pointer (some ⟨b, 0, none⟩)) none none none).run Tryd.prog w = .ok (.slice (some ⟨b, 0, none⟩) 16 16) w := by
  have hl : Tryd.prog.arrayLen 43 = 16 := by kernel_rfl
  have he : Tryd.prog.elem 43 = 5 := by kernel_rfl
  rw [run_sliceAt_array_all (ht := Tryd.underlying43), hl, he, size5]
  rfl
theorem splice_half {d : List Int} (h : d.length = 32) : splice (kv .u8 (fill 16 [])) 0 (kv .u8 (halfL d)) = kv .u8 (halfL d) := by
  unfold splice halfL
  rw [List.take_zero, List.nil_append, List.drop_eq_nil_of_le (by simp [fill, h]), List.append_nil]
set_option maxRecDepth 100000 in
set_option maxHeartbeats 1000000 in
theorem half_any (d : List Int) (w : World) (hd : d.length = 32) :
    Calls Tryd.prog 77 #[.agg (kv .u8 d).toArray] w fun r w' => r = .returned (.agg (kv .u8 (halfL d)).toArray) ∧ Below w.heap.size w w' := by
  have HD := Kp.mk hd
  have HH := Kp.mk (halfL_len hd)
  have HC := Kp.mk (cells50 (halfL_len hd))
  have HZ := Kp.mk (size50 (halfL_len hd))
  have HS := Kp.mk (splice_half hd)
  have HE : Kp (∀ j u, (kv .u8 (halfL d))[j]? = some u → (kv .u8 d)[j]? = some u) := ⟨fun j u h => by
    unfold halfL at h
    rw [← kv_take, List.getElem?_take] at h
    split at h
    · exact h
    · cases h⟩
  clear hd
  go_enter Tryd.func77, Tryd.ntmps77
  go_wp2_with fail
  obtain ⟨A, hA⟩ : ∃ A, A = w.heap.size := ⟨_, rfl⟩
  have HA := Kp.mk hA
  rw [← hA]
  refine wp_world (fun W => Row W A 70 .u8 d ∧ Row W (A + 1) 43 .u8 (fill 16 []) ∧ Row W (A + 2) 43 .u8 (fill 16 []) ∧ Below A w W) ⟨Row.alloc (Row.alloc (Blk.newAt _ hA) z50) z50, Row.alloc (Blk.newAt z50 (by rw [hA]; simp)) z50, Blk.newAt z50 (by rw [hA]; simp), by rw [hA]; exact more (more (more (Below.refl _ _) _) z50) z50⟩ ?_
  rintro W ⟨h1, h2, h3, h4⟩
  have H1 := Kp.mk h1
  have H2 := Kp.mk h2
  have H3 := Kp.mk h3
  have H4 := Kp.mk h4
  have hs := slice25_all
  have hs2 := slice50_all
  clear h1 h2 h3 h4 hA
  refine wp_region_any (by kernel_rfl) ?_
  change wpAny _ _ _ _ _ _ _ (World.drew _)
  refine wpAny_take (i := 0) (v := .slice (some ⟨A + 2, 0, none⟩) 16 16) rfl (by kernel_rfl) (by kernel_rfl) (by kernel_rfl) (fun _ _ _ h => h) (Or.inl ⟨by rfl, ?_⟩) ?_
  · intro w
    go_simp
  refine wpAny_take (i := 1) (v := .slice (some ⟨A, 0, none⟩) 32 32) rfl (by kernel_rfl) (by kernel_rfl) (by kernel_rfl) (fun _ _ _ h => h) (Or.inl ⟨by rfl, ?_⟩) ?_
  · intro w
    go_simp
  refine wpAny_ready (rs := [2]) (by kernel_rfl) (by simp) ?_
  refine AllReady.cons (o := { dst := some 6, op := Op.call { callee := Callee.builtin Builtin.copy, args := #[Operand.tmp 4, Operand.tmp 5], argTypes := #[131, 131] }, type := 3, pos := "mac.go:84", after := #[{ on := 0, ground := Ground.data }, { on := 1, ground := Ground.data }], guard := none }) rfl (fun K hK => ?_) AllReady.nil
  refine step_copy_splice rfl (.tmp 4) (.tmp 5) 131 131 rfl 5 Tryd.underlying131 (by kernel_rfl) (some ⟨A + 2, 0, none⟩) (some ⟨A, 0, none⟩) 16 16 32 32 rfl rfl (A + 2) 0 (kv .u8 (fill 16 [])) 43 H3.out.drew (kv .u8 (halfL d)) (by rw [List.length_map, HH.out]; rfl) (fun _ => ⟨rfl, _, rfl, fun j u hu => ?_⟩) (by rw [List.length_map, List.length_map, HH.out, fill_len (by simp)]; omega) (kv_one _) (A + 2) W.drew (Below.refl _ _) (Nat.le_refl _) ?_
  · have h := HE.out j u hu
    have hr := Blk.cell H1.out.drew j
    rw [List.getElem?_toArray, h] at hr
    have e : (⟨A, 0, none⟩ : Addr).add j = ⟨A, j, none⟩ := by unfold Addr.add; split <;> simp_all
    rw [e]
    exact hr
  intro w4 hg4 hb4
  refine hK _ _ ?_
  clear hK K
  refine wpAny_done (by kernel_rfl) ?_ _
  have G1 : Kp (Row w4 (A + 2) 43 .u8 (halfL d)) := ⟨by have h := hg4.out; rw [HS.out] at h; exact h⟩
  have G2 : Kp (Row w4 (A + 1) 43 .u8 (fill 16 [])) := ⟨H2.out.drew.upto hb4 (by omega)⟩
  have G3 : Kp (Below A w w4) := ⟨H4.out.trans ((below_drew2 hb4).mono (by omega))⟩
  have HF := Kp.mk (G2.out.setRow (halfL d))
  have HBf := Kp.mk (Below.row G3.out (g := A + 1) (by omega) (kv .u8 (halfL d)).toArray)
  clear hg4 hb4 hs hs2
  go_wp2_with (first
    | (refine wpList_load_row rfl 43 (.tmp 3) rfl (A + 2) rfl 43 (kv .u8 (halfL d)).toArray (0, 0) _ G1.out Tryd.underlying43 rfl HC.out ?_)
    | (refine wpList_store_row rfl 43 (.tmp 2) (.tmp 7) rfl (A + 1) (kv .u8 (halfL d)).toArray rfl rfl 43 _ G2.out HC.out HZ.out (kv_all _ _) ?_))
  refine bodyPost_ret (v := .agg (kv .u8 (halfL d)).toArray) ?_ rfl ⟨rfl, by rw [← HA.out]; exact HBf.out⟩
  exact results_cell_row rfl _ _ (A + 1) 43 _ (0, 0) _ rfl HF.out Tryd.underlying43 rfl HC.out
end Go.Proofs.YtibbinenhmiclaaDoor

namespace Go.Proofs.YtibbinenhmiclaaDoor
open Go.RowKit

theorem macL_len (k p : List Int) : (macL k p).length = 32 := digest_len _
set_option maxRecDepth 100000 in
set_option maxHeartbeats 1000000 in
theorem tag_any (M N : Nat) (v u : Value) (k p : List Int) (w : World) (hk : KonIs w) (hp : HoldsB w M v k) (hq : HoldsB w N u p) (hlen : k.length ≤ 999999999999000) (hlen2 : p.length ≤ 999999999990000) :
    Calls Tryd.prog 67 #[v, u] w fun r w' => r = .returned (.agg (kv .u8 (halfL (macL k p))).toArray) ∧ Below w.heap.size w w' := by
  have HK := Kp.mk hk
  have HP := Kp.mk hp
  have HQ := Kp.mk hq
  have HL := Kp.mk hlen
  have HL2 := Kp.mk hlen2
  clear hk hp hq hlen hlen2
  go_enter Tryd.func67, Tryd.ntmps67
  go_wp2_with fail
  refine calls_world (fun W => Row W w.heap.size 43 .u8 (fill 16 []) ∧ Below w.heap.size w W) ⟨Blk.newAt (w := w) z50 rfl, more (Below.refl _ _) z50⟩ ?_
  rintro w1 ⟨hr, hb⟩
  have HR := Kp.mk hr
  have HB := Kp.mk hb
  clear hr hb
  refine (mac_any M N v u k p w1 (HK.out.keep HB.out) (HP.out.keep HB.out) (HQ.out.keep HB.out) HL.out HL2.out).mono ?_
  rintro r w2 ⟨rfl, h2⟩
  have HR2 := Kp.mk (HR.out.keep h2)
  have HB2 : Kp (Below w.heap.size w w2) := ⟨HB.out.trans (h2.mono HB.out.size)⟩
  have HM := Kp.mk (macL_len k p)
  obtain ⟨d, hd⟩ : ∃ d, d = macL k p := ⟨_, rfl⟩
  rw [← hd] at HM ⊢
  have HD := Kp.mk hd
  clear h2 hd
  go_wp2_with fail
  refine (half_any d w2 HM.out).mono ?_
  rintro r w3 ⟨rfl, h3⟩
  have HR3 := Kp.mk (HR2.out.keep h3)
  have HB3 : Kp (Below w.heap.size w w3) := ⟨HB2.out.trans (h3.mono HB2.out.size)⟩
  have HC := Kp.mk (cells50 (halfL_len HM.out))
  have HZ := Kp.mk (size50 (halfL_len HM.out))
  have HF := Kp.mk (HR3.out.setRow (halfL d))
  have HBf := Kp.mk (Below.row HB3.out (g := w.heap.size) (Nat.le_refl _) (kv .u8 (halfL d)).toArray)
  clear h3
  go_wp2_with (refine wpList_store_row rfl 43 (.tmp 4) (.tmp 8) rfl w.heap.size (kv .u8 (halfL d)).toArray rfl rfl 43 _ HR3.out HC.out HZ.out (kv_all _ _) ?_)
  refine bodyPost_ret (v := .agg (kv .u8 (halfL d)).toArray) ?_ rfl ⟨by rw [HD.out], HBf.out⟩
  exact results_cell_row rfl _ _ w.heap.size 43 _ (0, 0) _ rfl HF.out Tryd.underlying43 rfl HC.out
theorem info49 : (Tryd.prog.info? 42).map (·.size) = some 16 := by kernel_rfl
theorem cells49 {l : List Int} (h : l.length = 16) : (Tryd.prog.info? 42).map (·.size) = some (kv .u8 l).toArray.size := by rw [info49, kv_size, h]
abbrev z49 : Obj := .cells (kv .u8 (fill 16 [])).toArray 42
theorem take_succ_get {l : List Int} {i : Nat} (h : i < l.length) : l.take (i + 1) = l.take i ++ [l.getD i 0] := by
  rw [List.take_succ_eq_append_getElem h, List.getD_eq_getElem?_getD, List.getElem?_eq_getElem h]
  rfl
theorem fill_take {n i : Nat} {l : List Int} (h : i < l.length) (hn : i < n) : (fill n (l.take i)).set i (l.getD i 0) = fill n (l.take (i + 1)) := by
  rw [take_succ_get h]
  have e : (l.take i).length = i := by rw [List.length_take]; omega
  have h2 := fill_set (n := n) (l := l.take i) (by omega) (l.getD i 0)
  rw [e] at h2
  exact h2
end Go.Proofs.YtibbinenhmiclaaDoor

namespace Go.Proofs.YtibbinenhmiclaaDoor
open Go.RowKit

theorem flat_take (zs : List (List Int)) (i : Nat) (h : i < zs.length) : (zs.take (i + 1)).flatten = (zs.take i).flatten ++ zs.getD i [] := by
  rw [List.take_succ_eq_append_getElem h, List.flatten_append, List.getD_eq_getElem?_getD, List.getElem?_eq_getElem h]
  simp
theorem flat_le (zs : List (List Int)) (i : Nat) : (zs.take i).flatten.length ≤ zs.flatten.length := by
  have h := congrArg (fun l => List.length (List.flatten l)) (List.take_append_drop i zs)
  simp only [List.flatten_append, List.length_append] at h
  omega
theorem flat_le2 (zs : List (List Int)) (i : Nat) (h : i < zs.length) : (zs.take i).flatten.length + (zs.getD i []).length ≤ zs.flatten.length := by
  have := flat_le zs (i + 1)
  rw [flat_take zs i h, List.length_append] at this
  exact this
/-- The short sum of a text. -/
abbrev shortL (t : List Int) : List Int := halfL (digest t)
theorem shortL_len (t : List Int) : (shortL t).length = 16 := halfL_len (digest_len t)
theorem shortL_bytes (t : List Int) : Bytes (shortL t) := (bytes_bytes _).take 16
set_option maxRecDepth 100000 in
set_option maxHeartbeats 1000000 in
theorem short_any (k : Int) (a0 : Option Addr) (n cap : Nat) (zs : List (List Int)) (w : World) (hk : KonIs w) (h8 : 0 ≤ k ∧ k ≤ 255) (hp : HoldsP w (.slice a0 n cap) zs) (hlen : 1 + zs.flatten.length ≤ 999999999990000) :
    Calls Tryd.prog 76 #[.int .u8 k, .slice a0 n cap] w fun r w' => r = .returned (.agg (kv .u8 (shortL (k :: zs.flatten))).toArray) ∧ Below w.heap.size w w' := by
  have hl : zs.length = n := by obtain ⟨a', n', c', e, hn⟩ := hp.slice; simp only [Value.slice.injEq] at e; omega
  have hlm : n ≤ maxLen := by obtain ⟨_, _, _, h2, _⟩ := hp; omega
  unfold maxLen at hlm
  have HK := Kp.mk hk
  have H8 := Kp.mk h8
  have HP := Kp.mk hp
  have HL := Kp.mk hl
  have HLen := Kp.mk hlen
  have HP0 := Kp.mk hk.pos
  clear hk h8 hp hl hlen
  go_enter Tryd.func76, Tryd.ntmps76
  go_wp2_with fail
  obtain ⟨A, hA⟩ : ∃ A, A = w.heap.size := ⟨_, rfl⟩
  have HA := Kp.mk hA
  rw [← hA]
  refine calls_world (fun W => Row W A 43 .u8 (fill 16 []) ∧ Below A w W ∧ A < W.heap.size) ⟨Blk.newAt (w := w) z50 hA, by rw [hA]; exact more (Below.refl _ _) z50, by rw [hA]; simp⟩ ?_
  rintro w1 ⟨hr, hb, hsz⟩
  have HR := Kp.mk hr
  have HB := Kp.mk hb
  have HS := Kp.mk hsz
  clear hr hb hsz hA
  refine (new_any w1).mono ?_
  rintro r w2 ⟨rfl, hh, hb⟩
  obtain ⟨D, hD⟩ : ∃ D, D = w1.heap.size := ⟨_, rfl⟩
  rw [← hD] at hh hb ⊢
  have HH := Kp.mk hh
  have HB2 : Kp (Below A w w2) := ⟨HB.out.trans (hb.mono (by rw [hD]; exact Nat.le_of_lt HS.out))⟩
  have HR2 := Kp.mk (HR.out.keep (by rw [← hD]; exact hb))
  have HAD : Kp (A < D) := ⟨by rw [hD]; exact HS.out⟩
  clear hh hb hD HR HB HS
  go_wp2_with fail
  have HX := Kp.mk (show HoldsX (w2.alloc (.cells #[.int .u8 k] 5)) D (.slice (some ⟨w2.heap.size, 0, none⟩) 1 1) [k] from ⟨one_holds w2 k H8.out, by
    intro x c c' he h0
    simp only [Value.slice.injEq, Option.some.injEq] at he
    rw [← he.1]
    have := HH.out.lt
    show w2.heap.size ≠ D
    omega⟩)
  have HB3 : Kp (Below A w (w2.alloc (.cells #[.int .u8 k] 5))) := ⟨HB2.out.alloc (by have := HR2.out.lt; omega) _⟩
  have HKa : Kp (KonIs (w2.alloc (.cells #[.int .u8 k] 5))) := ⟨HK.out.keep (by rw [← HA.out]; exact HB3.out)⟩
  have HRa := Kp.mk (HR2.out.alloc (.cells #[.int .u8 k] 5))
  have HHa : Kp (HashIs (w2.alloc (.cells #[.int .u8 k] 5)) D []) := ⟨HH.out.keep (more (Below.refl _ _) _)⟩
  generalize w2.alloc (.cells #[.int .u8 k] 5) = W3 at *
  refine (write_any D [] [k] _ W3 HKa.out (by have := HAD.out; omega) HHa.out HX.out (by simp)).mono ?_
  rintro r w4 ⟨rfl, h4⟩
  obtain ⟨rest', q1, q2, q3, hT⟩ := h4
  have HI4 : Kp (HashIs w4 D ([] ++ [k])) := ⟨⟨rest', q1, q2, q3, hT.blk⟩⟩
  have HB4 : Kp (Below A w w4) := ⟨HB3.out.trans (hT.below (Nat.le_of_lt HAD.out) (by have := HRa.out.lt; omega))⟩
  have HR4 := Kp.mk (show Row w4 A 43 .u8 (fill 16 []) from hT.keep HRa.out (by have := HAD.out; omega))
  clear q1 q2 q3 hT HX HB3 HKa HRa HHa HH HB2 HR2
  go_wp2_with fail
  go_loopw [15] (fun c wr => ∃ i : Nat, i ≤ n ∧ c = .int .i64 i ∧ HashIs wr D (k :: (zs.take i).flatten) ∧ Row wr A 43 .u8 (fill 16 []) ∧ Below A w wr) (fun c _ => n - (intOf c).toNat)
  case atStart => exact ⟨0, by omega, rfl, by simpa using HI4.out, HR4.out, HB4.out⟩
  case round =>
    obtain ⟨i, hi, rfl, h1, h2, h3⟩ := hrel
    clear HI4 HR4 HB4
    have G1 := Kp.mk h1
    have G2 := Kp.mk h2
    have G3 := Kp.mk h3
    clear h1 h2 h3
    by_cases hlt : i < n
    · obtain ⟨b, off, a1, n1, c1, rfl, hbw, hcell, hp⟩ : ∃ b off a1 n1 c1, a0 = some ⟨b, off, none⟩ ∧ b < w.heap.size ∧ w.cell? ⟨b, off + i, none⟩ = some (.slice a1 n1 c1) ∧ HoldsB w w.heap.size (.slice a1 n1 c1) (zs.getD i []) := by
        obtain ⟨a', cap', e, _, h3⟩ := HP.out
        simp only [Value.slice.injEq] at e
        obtain ⟨rfl, -, -⟩ := e
        obtain ⟨b, off, a1, n1, c1, e1, e2, e3, e4⟩ := h3 i (by rw [HL.out]; exact hlt)
        exact ⟨b, off, a1, n1, c1, e1, e2, e3, e4⟩
      have hc : wr.cell? ⟨b, off + i, none⟩ = some (.slice a1 n1 c1) := (World.cell?_of_block (w := w) (a := ⟨b, off + i, none⟩) (G3.out.block b (by rw [HA.out]; exact hbw))).trans hcell
      have HPp := Kp.mk hp
      have HFT := Kp.mk (flat_take zs i (by rw [HL.out]; exact hlt))
      have HF2 := Kp.mk (flat_le2 zs i (by rw [HL.out]; exact hlt))
      clear hcell hbw hp
      generalize zs.getD i [] = p at *
      generalize hQ : (zs.take i).flatten = q at *
      have HQq := Kp.mk hQ
      clear hQ
      go_wp2_with fail
      refine (write_any D (k :: q) p _ wr (HK.out.keep (by rw [← HA.out]; exact G3.out)) (by have := HAD.out; omega) G1.out (HPp.out.apart (by rw [← HA.out]; exact G3.out) (by rw [← HA.out]; exact Nat.le_of_lt HAD.out)) (by rw [List.length_cons]; have := HF2.out; have := HLen.out; omega)).mono ?_
      rintro r w5 ⟨rfl, h5⟩
      obtain ⟨rest', q1, q2, q3, hT⟩ := h5
      have HI5 : Kp (HashIs w5 D (k :: (zs.take (i + 1)).flatten)) := ⟨by rw [HFT.out, ← List.cons_append]; exact ⟨rest', q1, q2, q3, hT.blk⟩⟩
      have HB5 : Kp (Below A w w5) := ⟨G3.out.trans (hT.below (Nat.le_of_lt HAD.out) (by have := G2.out.lt; omega))⟩
      have HR5 := Kp.mk (show Row w5 A 43 .u8 (fill 16 []) from hT.keep G2.out (by have := HAD.out; omega))
      clear q1 q2 q3 hT hc
      go_wp2_with fail
      exact ⟨⟨i + 1, by omega, by go_num, HI5.out, HR5.out, HB5.out⟩, by simp [intOf]; omega⟩
    · have hge : (n : Int) ≤ i := by omega
      have G1' : Kp (HashIs wr D (k :: zs.flatten)) := ⟨by have h := G1.out; rw [List.take_of_length_le (by have := HL.out; omega)] at h; exact h⟩
      clear hlt hi
      go_wp2_with fail
      refine (hsum_any D (k :: zs.flatten) wr (HK.out.keep (by rw [← HA.out]; exact G3.out)) (by have := HAD.out; omega) G1'.out (by rw [List.length_cons]; have := HLen.out; omega)).mono ?_
      rintro r w6 ⟨rfl, h6⟩
      have HR6 := Kp.mk (G2.out.keep h6)
      have HB6 : Kp (Below A w w6) := ⟨G3.out.trans (h6.mono (by have := G2.out.lt; omega))⟩
      have HM := Kp.mk (digest_len (k :: zs.flatten))
      obtain ⟨d, hd⟩ : ∃ d, d = digest (k :: zs.flatten) := ⟨_, rfl⟩
      have HD := Kp.mk (show shortL (k :: zs.flatten) = halfL d by rw [hd])
      rw [← hd] at HM ⊢
      clear h6 hd
      go_wp2_with fail
      refine (half_any d w6 HM.out).mono ?_
      rintro r w7 ⟨rfl, h7⟩
      have HR7 := Kp.mk (HR6.out.keep h7)
      have HB7 : Kp (Below A w w7) := ⟨HB6.out.trans (h7.mono (by have := HR6.out.lt; omega))⟩
      have HC := Kp.mk (cells50 (halfL_len HM.out))
      have HZ := Kp.mk (size50 (halfL_len HM.out))
      have HF := Kp.mk (HR7.out.setRow (halfL d))
      have HBf := Kp.mk (Below.row HB7.out (g := A) (Nat.le_refl _) (kv .u8 (halfL d)).toArray)
      clear h7
      go_wp2_with (refine wpList_store_row rfl 43 (.tmp 4) (.tmp 25) rfl A (kv .u8 (halfL d)).toArray rfl rfl 43 _ HR7.out HC.out HZ.out (kv_all _ _) ?_)
      refine bodyPost_ret (v := .agg (kv .u8 (halfL d)).toArray) ?_ rfl ⟨by rw [HD.out], by rw [← HA.out]; exact HBf.out⟩
      exact results_cell_row rfl _ _ A 43 _ (0, 0) _ rfl HF.out Tryd.underlying43 rfl HC.out
end Go.Proofs.YtibbinenhmiclaaDoor

namespace Go.Proofs.YtibbinenhmiclaaDoor
open Go.RowKit

theorem sched_take (l : List Int) (n j : Nat) (h : j ≤ n) : (sched l n).take (16 + j) = sched l j := by
  induction n with
  | zero =>
    obtain rfl : j = 0 := by omega
    rw [List.take_of_length_le (by rw [sched_len]; omega)]
  | succ n ih =>
    by_cases hj : j ≤ n
    · have : sched l (n + 1) = sched l n ++ [w32 (w32 (w32 ((sched l n).getD n 0 + sm0 ((sched l n).getD (n + 1) 0)) + (sched l n).getD (n + 9) 0) + sm1 ((sched l n).getD (n + 14) 0))] := rfl
      rw [this, List.take_append_of_le_length (by rw [sched_len]; omega), ih hj]
    · obtain rfl : j = n + 1 := by omega
      rw [List.take_of_length_le (by rw [sched_len]; omega)]
theorem sched_get (l : List Int) (n j i : Nat) (h : j ≤ n) (hi : i < 16 + j) : (sched l n).getD i 0 = (sched l j).getD i 0 := by
  rw [← sched_take l n j h, take_getD hi]
theorem sched_low (l : List Int) (k : Nat) (h : k < 16) : (sched l 48).getD k 0 = word l k := by
  rw [sched_get l 48 0 k (by omega) (by omega)]
  simp [sched, List.getD_eq_getElem?_getD, h]
theorem sched_high (l : List Int) (k : Nat) (h16 : 16 ≤ k) (h : k < 64) :
    (sched l 48).getD k 0 = (sm1 ((sched l 48).getD (k - 2) 0) + (sched l 48).getD (k - 7) 0 + sm0 ((sched l 48).getD (k - 15) 0) + (sched l 48).getD (k - 16) 0) % 4294967296 := by
  obtain ⟨j, rfl⟩ : ∃ j, k = 16 + j := ⟨k - 16, by omega⟩
  have e : sched l (j + 1) = sched l j ++ [w32 (w32 (w32 ((sched l j).getD j 0 + sm0 ((sched l j).getD (j + 1) 0)) + (sched l j).getD (j + 9) 0) + sm1 ((sched l j).getD (j + 14) 0))] := rfl
  rw [sched_get l 48 (j + 1) (16 + j) (by omega) (by omega), e]
  rw [show 16 + j - 2 = j + 14 by omega, show 16 + j - 7 = j + 9 by omega, show 16 + j - 15 = j + 1 by omega, show 16 + j - 16 = j by omega]
  rw [sched_get l 48 j (j + 14) (by omega) (by omega), sched_get l 48 j (j + 9) (by omega) (by omega), sched_get l 48 j (j + 1) (by omega) (by omega), sched_get l 48 j j (by omega) (by omega)]
  have hl := sched_len l j
  generalize sched l j = S at *
  have e2 : (S ++ [w32 (w32 (w32 (S.getD j 0 + sm0 (S.getD (j + 1) 0)) + S.getD (j + 9) 0) + sm1 (S.getD (j + 14) 0))]).getD (16 + j) 0 = w32 (w32 (w32 (S.getD j 0 + sm0 (S.getD (j + 1) 0)) + S.getD (j + 9) 0) + sm1 (S.getD (j + 14) 0)) := by
    rw [List.getD_eq_getElem?_getD, List.getElem?_append_right (by omega), hl, Nat.sub_self]
    rfl
  rw [e2]
  unfold w32
  simp only [w32_mod]
  omega
theorem sched_step (l : List Int) (k : Nat) (h : k < 64) : (sched l 48).take (k + 1) = (sched l 48).take k ++ [(sched l 48).getD k 0] := by
  have hl : k < (sched l 48).length := by rw [sched_len]; omega
  rw [List.take_succ_eq_append_getElem hl, List.getD_eq_getElem?_getD, List.getElem?_eq_getElem hl]
  rfl
end Go.Proofs.YtibbinenhmiclaaDoor

namespace Go.Proofs.YtibbinenhmiclaaDoor
open Go.RowKit

/-- What stays through the document's Block: the state, the constants, the result's room; nothing below A turns. -/
structure Fx (A K R : Nat) (sl : List Int) (w wr : World) : Prop where
  st : Row wr A 162 .u32 sl
  kn : Row wr K 167 .u32 kon
  rs : Row wr R 162 .u32 (fill 8 [])
  be : Below A w wr
theorem Fx.set {A K R b i : Nat} {v : Value} {sl : List Int} {w wr : World} (h : Fx A K R sl w wr) (h1 : b ≠ A) (h2 : b ≠ K) (h3 : b ≠ R) (h4 : A ≤ b) : Fx A K R sl w (wr.setCell ⟨b, i, none⟩ v) :=
  ⟨h.st.other (by exact h1) _, h.kn.other (by exact h2) _, h.rs.other (by exact h3) _, h.be.setCell (by exact h4) _⟩
theorem Fx.row {A K R b : Nat} {cs : Array Value} {sl : List Int} {w wr : World} (h : Fx A K R sl w wr) (h1 : b ≠ A) (h2 : b ≠ K) (h3 : b ≠ R) (h4 : A ≤ b) : Fx A K R sl w (wr.setRow b cs) :=
  ⟨h.st.otherRow (Ne.symm h1) _, h.kn.otherRow (Ne.symm h2) _, h.rs.otherRow (Ne.symm h3) _, Below.row h.be h4 _⟩
theorem Fx.drewN {A K R : Nat} {sl : List Int} {w wr : World} (h : Fx A K R sl w wr) (n : Nat) : Fx A K R sl w (wr.drewN n) := ⟨h.st, h.kn, h.rs, below_drewN h.be n⟩
theorem Fx.drew {A K R : Nat} {sl : List Int} {w wr : World} (h : Fx A K R sl w wr) : Fx A K R sl w wr.drew := ⟨h.st, h.kn, h.rs, h.be.drew⟩
theorem Fx.alloc {A K R : Nat} {sl : List Int} {w wr : World} (h : Fx A K R sl w wr) (o : Obj) : Fx A K R sl w (wr.alloc o) := ⟨h.st.alloc _, h.kn.alloc _, h.rs.alloc _, h.be.alloc (Nat.le_of_lt h.st.lt) _⟩
theorem info68' : (Tryd.prog.info? 162).map (·.size) = some 8 := by kernel_rfl
theorem cells68 {l : List Int} (h : l.length = 8) : (Tryd.prog.info? 162).map (·.size) = some (kv .u32 l).toArray.size := by rw [info68', kv_size, h]
abbrev z68 : Obj := .cells (kv .u32 (fill 8 [])).toArray 162
theorem size8 {l : List Int} (h : l.length = 8) : (kv .u32 (fill 8 [])).toArray.size = (kv .u32 l).toArray.size := by rw [kv_size, kv_size, h]; rfl
theorem step1_max (t : St) (kk ww T : Int) (h : (((t.h + bits BinOp.xor IntKind.u32 (bits BinOp.xor IntKind.u32 (rot t.e 6) (rot t.e 11)) (rot t.e 25) + bits BinOp.xor IntKind.u32 (bits BinOp.and IntKind.u32 t.e t.f)
    (bits BinOp.and IntKind.u32 (bits BinOp.xor IntKind.u32 IntKind.u32.max t.e) t.g) + kk) % 4294967296 + ww) % 4294967296 = T)) : T = step1 t kk ww := step1_eq t kk ww T h
theorem Fx.setA {A K R i : Nat} {x : Int} {sl : List Int} {w wr : World} (h : Fx A K R sl w wr) (h1 : A ≠ K) (h2 : A ≠ R) : Fx A K R (sl.set i x) w (wr.setCell ⟨A, i, none⟩ (.int .u32 x)) :=
  ⟨h.st.set i x, h.kn.other (by exact h1) _, h.rs.other (by exact h2) _, h.be.setCell (Nat.le_refl _) _⟩
theorem word_add (x0 x1 x2 x3 : Int) (_h0 : 0 ≤ x0 ∧ x0 ≤ 255) (_h1 : 0 ≤ x1 ∧ x1 ≤ 255) (_h2 : 0 ≤ x2 ∧ x2 ≤ 255) (_h3 : 0 ≤ x3 ∧ x3 ≤ 255) : x0 * 16777216 + x1 * 65536 + x2 * 256 + x3 = ((x0 * 256 + x1) * 256 + x2) * 256 + x3 := by omega
end Go.Proofs.YtibbinenhmiclaaDoor

namespace Go.Proofs.YtibbinenhmiclaaDoor
open Go.RowKit

abbrev z68b : Obj := .cells (kv .u32 (fill 8 [])).toArray 162
theorem cells68b {l : List Int} (h : l.length = 8) : (Tryd.prog.info? 162).map (·.size) = some (kv .u32 l).toArray.size := by
  have h1 : (Tryd.prog.info? 162).map (·.size) = some 8 := by kernel_rfl
  rw [h1, kv_size, h]
end Go.Proofs.YtibbinenhmiclaaDoor

namespace Go.Proofs.YtibbinenhmiclaaDoor
open Go.RowKit

theorem still_load_mid {P : Program} {ops : Array Oper} {rest : List Oper} {o : Oper} {a : Act} {w : World} {Q : Act → Prop} (hgd : o.guard = none) (ty : TypeId) (x : Operand) (ho : o.op = .load ty x)
    (b off : Nat) (hx : a.eval x = .pointer (some ⟨b, off, none⟩)) (cs : List Value) (d : TypeDesc) (hc : w.rangeAt b off cs)
    (hu : P.underlying ty = some d) (hd : d.isRow = true) (hi : (P.info? ty).map (·.size) = some cs.length)
    (h : wpStill P ops w Q rest (a.put o.dst (.agg cs.toArray))) : wpStill P ops w Q (o :: rest) a := by
  refine wpStill_step fun K hK => ?_
  have hw : Region.wanted o (yielded ops a.tmps) = true := by simp [Region.wanted, hgd]
  rw [if_pos hw]
  unfold Oper.still execOp
  simp only [ho, hx, Instr.loadAt, Instr.sureAddr, Sem.run_bind, Sem.run_pure, Result.andThen_ok, run_loadVar_mid w b off ty cs d hc hu hd hi]
  exact ⟨rfl, hK _ h⟩
theorem Row.range {w : World} {b : Nat} {t : TypeId} {k : IntKind} {l : List Int} (h : Row w b t k l) : w.rangeAt b 0 (kv k l) := by
  intro j v hv
  rw [Blk.cell h, Nat.zero_add, List.getElem?_toArray]
  exact hv
theorem bytes_word (s : St) (i : Nat) (h : i < 8) : s.bytes.take (4 * (i + 1)) = s.bytes.take (4 * i) ++ be32 (s.list.getD i 0) := by
  match i, h with
  | 0, _ => rfl
  | 1, _ => rfl
  | 2, _ => rfl
  | 3, _ => rfl
  | 4, _ => rfl
  | 5, _ => rfl
  | 6, _ => rfl
  | 7, _ => rfl
/-- What stands in the sum's room behind i words, and t bytes of the next one, the last one first. -/
def wst (s : St) (i t : Nat) : List Int := fill 32 (s.bytes.take (4 * i) ++ (List.replicate (4 - t) 0 ++ (be32 (s.list.getD i 0)).drop (4 - t)))
theorem wst_len (s : St) (i t : Nat) (hi : i < 8) (_ht : t ≤ 4) : (wst s i t).length = 32 := by
  unfold wst
  rw [fill_len]
  simp [bytes_len, be32_len]
  omega
theorem wst_zero (s : St) (i : Nat) (hi : i < 8) : wst s i 0 = fill 32 (s.bytes.take (4 * i)) := by
  unfold wst fill
  have h1 : (s.bytes.take (4 * i)).length = 4 * i := by rw [List.length_take, bytes_len]; omega
  have h2 : (be32 (s.list.getD i 0)).drop (4 - 0) = [] := List.drop_of_length_le (by rw [be32_len]; omega)
  rw [h2, List.append_nil, List.append_assoc]
  congr 1
  rw [List.replicate_append_replicate, List.length_append, h1, List.length_replicate]
  congr 1
  omega
theorem wst_full (s : St) (i : Nat) (hi : i < 8) : wst s i 4 = fill 32 (s.bytes.take (4 * (i + 1))) := by
  rw [bytes_word s i hi]
  rfl
theorem set_mid {P M R : List Int} {n c : Nat} (hP : P.length = n) (hc : c < M.length) (v : Int) : ((P ++ M) ++ R).set (n + c) v = (P ++ M.set c v) ++ R := by
  subst hP
  rw [List.set_append_left _ _ (by rw [List.length_append]; omega), List.set_append_right _ _ (by omega), Nat.add_sub_cancel_left]
/-- A word's room behind t bytes. -/
def wt (x : Int) (t : Nat) : List Int := List.replicate (4 - t) 0 ++ (be32 x).drop (4 - t)
theorem wt_len (x : Int) (t : Nat) (_h : t ≤ 4) : (wt x t).length = 4 := by simp [wt, be32_len]
theorem wt_set (x : Int) (t : Nat) (h : t < 4) : (wt x t).set (3 - t) (x / 256 ^ t % 256) = wt x (t + 1) := by
  match t, h with
  | 0, _ => exact (show [0, 0, 0, x / 1 % 256] = [0, 0, 0, x % 256] by rw [Int.ediv_one])
  | 1, _ => rfl
  | 2, _ => rfl
  | 3, _ => rfl
theorem wst_set (s : St) (i t : Nat) (hi : i < 8) (ht : t < 4) : (wst s i t).set (4 * i + (3 - t)) (s.list.getD i 0 / 256 ^ t % 256) = wst s i (t + 1) := by
  have h1 : (s.bytes.take (4 * i)).length = 4 * i := by rw [List.length_take, bytes_len]; omega
  have e : ∀ t, wst s i t = (s.bytes.take (4 * i) ++ wt (s.list.getD i 0) t) ++ List.replicate (32 - (s.bytes.take (4 * i) ++ wt (s.list.getD i 0) t).length) 0 := fun t => rfl
  rw [e t, e (t + 1), set_mid h1 (by rw [wt_len _ _ (by omega)]; omega), wt_set _ _ ht]
  congr 2
  rw [List.length_append, List.length_append, wt_len _ _ (by omega), wt_len _ _ (by omega)]
theorem blocks_pos (n : Nat) : ∃ m, blocks n = m + 1 := by
  unfold blocks
  split
  · exact ⟨_, rfl⟩
  · exact ⟨n / 64 + 1, rfl⟩
theorem sum_range (l : List Int) (i : Nat) (h : i < 8) : 0 ≤ (sumSt l).list.getD i 0 ∧ (sumSt l).list.getD i 0 < 4294967296 := by
  obtain ⟨m, hm⟩ := blocks_pos l.length
  have e : sumSt l = St.add (absorb (pad l) m) (rnds (absorb (pad l) m) (sched (((pad l).drop (64 * m)).take 64) 48) 64) := by
    unfold sumSt
    rw [hm]
    rfl
  rw [e, add_get _ _ _ h]
  omega
end Go.Proofs.YtibbinenhmiclaaDoor

namespace Go.Proofs.YtibbinenhmiclaaDoor
open Go.RowKit

theorem info24 : (Tryd.prog.info? 24).map (·.size) = some 32 := by kernel_rfl
theorem cells24 {l : List Int} (h : l.length = 32) : (Tryd.prog.info? 24).map (·.size) = some (kv .u8 l).toArray.size := by rw [info24, kv_size, h]
abbrev z24 : Obj := .cells (kv .u8 (fill 32 [])).toArray 24
end Go.Proofs.YtibbinenhmiclaaDoor

namespace Go.Proofs.YtibbinenhmiclaaDoor
open Go.RowKit

/-- A literal of one byte. -/
theorem ownsRow_one (w : World) (x : Int) : (w.alloc (.cells #[.int .u8 x] 5)).ownsRow w.heap.size 5 1 (.slice (some ⟨w.heap.size, 0, none⟩) 1 1) 1 (bv [x]) :=
  ⟨rfl, .inr ⟨w.heap.size, 1, _, rfl, Nat.le_refl _, heap_alloc_new w _, Nat.le_refl _, by unfold maxLen; omega, rfl, rfl⟩⟩
/-- Bytes of rows of bytes. -/
theorem HoldsP.flat {w : World} {v : Value} {zs : List (List Int)} (h : HoldsP w v zs) : Bytes zs.flatten := by
  obtain ⟨_, _, _, _, h3⟩ := h
  intro x hx
  obtain ⟨l, hl, hx⟩ := List.mem_flatten.1 hx
  obtain ⟨i, hi, rfl⟩ := List.mem_iff_getElem.1 hl
  obtain ⟨_, _, _, _, _, _, _, _, h4⟩ := h3 i hi
  have := h4.bytes
  rw [List.getD_eq_getElem?_getD, List.getElem?_eq_getElem hi] at this
  exact this x hx
end Go.Proofs.YtibbinenhmiclaaDoor
