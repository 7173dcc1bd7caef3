/-
  The document's Text and Short.
-/
import Derived.Test.YtpljjmdkagbjpaaDoorShort
import Derived.Test.YtpljjmdkagbjpaaDoorRSumW
namespace Go.Proofs.YtpljjmdkagbjpaaDoor
open Go.RowKit

/-- A literal of one byte. -/
theorem ownsRow_one (w : World) (x : Int) : (w.alloc (.cells #[.int .u8 x] 5)).ownsRow w.heap.size 5 1 (.slice (some ⟨w.heap.size, 0, none⟩) 1 1) 1 (bv [x]) :=
  ⟨rfl, .inr ⟨w.heap.size, 1, _, rfl, Nat.le_refl _, heap_alloc_new w _, Nat.le_refl _, by unfold maxLen; omega, rfl, rfl⟩⟩
/-- Bytes of rows of bytes. -/
theorem HoldsP.flat {w : World} {v : Value} {zs : List (List Int)} (h : HoldsP w v zs) : Bytes zs.flatten := by
  obtain ⟨_, _, _, _, h3⟩ := h
  intro x hx
  obtain ⟨l, hl, hx⟩ := List.mem_flatten.1 hx
  obtain ⟨i, hi, rfl⟩ := List.mem_iff_getElem.1 hl
  obtain ⟨_, _, _, _, _, _, _, _, h4⟩ := h3 i hi
  have := h4.bytes
  rw [List.getD_eq_getElem?_getD, List.getElem?_eq_getElem hi] at this
  exact this x hx
set_option maxRecDepth 100000 in
set_option maxHeartbeats 1000000 in
theorem rtext_any (k : Int) (a0 : Option Addr) (n cap : Nat) (zs : List (List Int)) (w : World) (h8 : 0 ≤ k ∧ k ≤ 255) (hp : HoldsP w (.slice a0 n cap) zs) (hlen : 1 + zs.flatten.length ≤ 140737488351400) :
    Calls Tryd.prog 45 #[.int .u8 k, .slice a0 n cap] w fun r w' => ∃ v', r = .returned v' ∧ HoldsB w' w'.heap.size v' (k :: zs.flatten) ∧ (∀ g, v'.ownBlock = some g → w.heap.size ≤ g) ∧ Below w.heap.size w w' := by
  have hl : zs.length = n := by obtain ⟨a', n', c', e, hn⟩ := hp.slice; simp only [Value.slice.injEq] at e; omega
  have hlm : n ≤ maxLen := by obtain ⟨_, _, _, h2, _⟩ := hp; omega
  unfold maxLen at hlm
  have H8 := Kp.mk h8
  have HP := Kp.mk hp
  have HL := Kp.mk hl
  have HLen := Kp.mk hlen
  clear h8 hp hl hlen
  go_enter Tryd.func45, Tryd.ntmps45
  go_wp2_with fail
  obtain ⟨A, hA⟩ : ∃ A, A = w.heap.size := ⟨_, rfl⟩
  have HA := Kp.mk hA
  rw [← hA]
  refine wp_world (fun W => W.ownsRow A 5 1 (.slice (some ⟨A, 0, none⟩) 1 1) 1 (bv [k]) ∧ Below A w W) ⟨by rw [hA]; exact ownsRow_one w k, by rw [hA]; exact more (Below.refl _ _) _⟩ ?_
  rintro W ⟨h1, h2⟩
  have G1 := Kp.mk h1
  have G2 := Kp.mk h2
  clear h1 h2 hA
  go_loopw [5, 6] (fun s5 c wr => ∃ (i N : Nat) (a5 : Option Addr) (c5 : Nat), i ≤ n ∧ c = .int .i64 i ∧ s5 = .slice a5 N c5 ∧ Kp (N = 1 + (zs.take i).flatten.length) ∧ wr.ownsRow A 5 1 (.slice a5 N c5) N (bv (k :: (zs.take i).flatten)) ∧ Below A w wr) (fun _ c _ => n - (intOf c).toNat)
  case atStart => exact ⟨0, 1, _, _, by omega, rfl, rfl, ⟨by simp⟩, by simpa using G1.out, G2.out⟩
  case round =>
    obtain ⟨i, N, a5, c5, hi, rfl, rfl, HNN, h1, h2⟩ := hrel
    clear G1 G2
    have G1 := Kp.mk h1
    have G2 := Kp.mk h2
    have HSz : Kp (A ≤ wr.heap.size) := ⟨by have := h2.size; have := HA.out; omega⟩
    clear h1 h2
    by_cases hlt : i < n
    · obtain ⟨b, off, a1, n1, c1, rfl, hbw, hcell, hp⟩ : ∃ b off a1 n1 c1, a0 = some ⟨b, off, none⟩ ∧ b < w.heap.size ∧ w.cell? ⟨b, off + i, none⟩ = some (.slice a1 n1 c1) ∧ HoldsB w w.heap.size (.slice a1 n1 c1) (zs.getD i []) := by
        obtain ⟨a', cap', e, _, h3⟩ := HP.out
        simp only [Value.slice.injEq] at e
        obtain ⟨rfl, -, -⟩ := e
        obtain ⟨b, off, a1, n1, c1, e1, e2, e3, e4⟩ := h3 i (by rw [HL.out]; exact hlt)
        exact ⟨b, off, a1, n1, c1, e1, e2, e3, e4⟩
      have hc : wr.cell? ⟨b, off + i, none⟩ = some (.slice a1 n1 c1) := (World.cell?_of_block (w := w) (a := ⟨b, off + i, none⟩) (G2.out.block b (by rw [HA.out]; exact hbw))).trans hcell
      have HPp : Kp (HoldsB wr w.heap.size (.slice a1 n1 c1) (zs.getD i [])) := ⟨hp.keep (by rw [← HA.out]; exact G2.out)⟩
      have HFT := Kp.mk (flat_take zs i (by rw [HL.out]; exact hlt))
      have HF2 := Kp.mk (flat_le2 zs i (by rw [HL.out]; exact hlt))
      clear hcell hbw hp
      generalize zs.getD i [] = p at *
      generalize hQ : (zs.take i).flatten = q at *
      have HQq := Kp.mk hQ
      clear hQ
      have hN : N + p.length ≤ 140737488351400 := by have := HF2.out; have := HLen.out; have := HNN.out; omega
      have hNb : N ≤ 140737488351400 := by omega
      have HN2 := Kp.mk hN
      clear hN
      go_wp2_with (at_builtin; refine wpList_append_holds rfl _ _ rfl A _ _ _ rfl G1.out _ _ p rfl HPp.out ?d0 ?d1 ?_)
      case d0 => have := HN2.out; omega
      case d1 => exact HSz.out
      intro v2 w2 ho hg
      have hbel : Below A w w2 := G2.out.trans (below_row_grown (Below.refl _ _) HSz.out G1.out hg)
      obtain ⟨L2, hL2⟩ : ∃ L2, L2 = N + p.length := ⟨_, rfl⟩
      have ho2 : w2.ownsRow A 5 1 v2 L2 (bv (k :: (zs.take (i + 1)).flatten)) := by
        rw [HFT.out, hL2]
        simpa using ho
      obtain ⟨a2, c2, rfl⟩ := row_slice ho2
      have HO2 := Kp.mk ho2
      have HB2 := Kp.mk hbel
      have HL2 : Kp (L2 = 1 + (zs.take (i + 1)).flatten.length) := ⟨by rw [HFT.out, List.length_append]; have := HNN.out; omega⟩
      clear ho hg hbel ho2 hL2 hc
      go_wp2_with fail
      exact ⟨⟨i + 1, L2, a2, c2, by omega, by go_num, rfl, HL2, HO2.out, HB2.out⟩, by simp [intOf]; omega⟩
    · have hge : (n : Int) ≤ i := by omega
      have HO : Kp (HoldsB wr wr.heap.size (.slice a5 N c5) (k :: zs.flatten) ∧ ∀ g, (Value.slice a5 N c5).ownBlock = some g → A ≤ g) := by
        have h := G1.out
        have e0 : zs.take i = zs := List.take_of_length_le (by have := HL.out; omega)
        have hN := HNN.out
        rw [e0] at h hN
        have e : N = (k :: zs.flatten).length := by rw [List.length_cons, hN]; omega
        refine ⟨?_, fun g hg => (h.lt g hg).1⟩
        have h2 := HoldsB.ofRow (l := k :: zs.flatten) (fun x hx => by
          rcases List.mem_cons.1 hx with rfl | hx
          · exact H8.out
          · exact HP.out.flat x hx) (by rw [e] at h; exact h)
        rw [e]
        exact h2
      clear hlt hi
      go_wp2_with fail
      go_ret
      exact ⟨_, rfl, HO.out.1, by rw [← HA.out]; exact HO.out.2, by rw [← HA.out]; exact G2.out⟩
set_option maxRecDepth 100000 in
set_option maxHeartbeats 1000000 in
theorem rshort_any (k : Int) (a0 : Option Addr) (n cap : Nat) (zs : List (List Int)) (w : World) (h8 : 0 ≤ k ∧ k ≤ 255) (hp : HoldsP w (.slice a0 n cap) zs) (hlen : 1 + zs.flatten.length ≤ 140737488351400) :
    Calls Tryd.prog 44 #[.int .u8 k, .slice a0 n cap] w fun r w' => r = .returned (.agg (kv .u8 (shortL (k :: zs.flatten))).toArray) ∧ Below w.heap.size w w' := by
  have H8 := Kp.mk h8
  have HP := Kp.mk hp
  have HLen := Kp.mk hlen
  clear h8 hp hlen
  go_enter Tryd.func44, Tryd.ntmps44
  go_wp2_with fail
  refine calls_world (fun W => Row W w.heap.size 25 .u8 (fill 16 []) ∧ Below w.heap.size w W) ⟨Blk.newAt (w := w) z49 rfl, more (Below.refl _ _) z49⟩ ?_
  rintro w1 ⟨hr, hb⟩
  have HR := Kp.mk hr
  have HB := Kp.mk hb
  clear hr hb
  refine (rtext_any k a0 n cap zs w1 H8.out (HP.out.keep HB.out) HLen.out).mono ?_
  rintro r w2 ⟨v, rfl, h2, h3, h4⟩
  have HH := Kp.mk h2
  have HR2 := Kp.mk (HR.out.keep h4)
  have HB2 : Kp (Below w.heap.size w w2) := ⟨HB.out.trans (h4.mono HB.out.size)⟩
  clear h2 h3 h4
  go_wp2_with fail
  refine (rsum_any _ v (k :: zs.flatten) w2 HH.out (by rw [List.length_cons]; have := HLen.out; omega)).mono ?_
  rintro r w3 ⟨rfl, h5⟩
  have HR3 := Kp.mk (HR2.out.keep h5)
  have HB3 : Kp (Below w.heap.size w w3) := ⟨HB2.out.trans (h5.mono HB2.out.size)⟩
  have HM := Kp.mk (digest_len (k :: zs.flatten))
  obtain ⟨d, hd⟩ : ∃ d, d = digest (k :: zs.flatten) := ⟨_, rfl⟩
  have HD := Kp.mk (show shortL (k :: zs.flatten) = halfL d by rw [hd])
  rw [← hd] at HM ⊢
  clear h5 hd
  go_wp2_with fail
  refine (rhalf_any d w3 HM.out).mono ?_
  rintro r w4 ⟨rfl, h6⟩
  have HR4 := Kp.mk (HR3.out.keep h6)
  have HB4 : Kp (Below w.heap.size w w4) := ⟨HB3.out.trans (h6.mono HB3.out.size)⟩
  have HC := Kp.mk (cells49 (halfL_len HM.out))
  have HZ := Kp.mk (size50 (halfL_len HM.out))
  have HF := Kp.mk (HR4.out.setRow (halfL d))
  have HBf := Kp.mk (Below.row HB4.out (g := w.heap.size) (Nat.le_refl _) (kv .u8 (halfL d)).toArray)
  clear h6
  go_wp2_with (refine wpList_store_row rfl 25 (.tmp 4) (.tmp 9) rfl w.heap.size (kv .u8 (halfL d)).toArray rfl rfl 25 _ HR4.out HC.out HZ.out (kv_all _ _) ?_)
  refine bodyPost_ret (v := .agg (kv .u8 (halfL d)).toArray) ?_ rfl ⟨by rw [HD.out], HBf.out⟩
  exact results_cell_row rfl _ _ w.heap.size 25 _ (0, 0) _ rfl HF.out Tryd.underlying25 rfl HC.out
end Go.Proofs.YtpljjmdkagbjpaaDoor
