/-
  The law MacShorts, walked.
-/
import Derived.Test.YtahmioiefmheeaaDoorShortR
import Derived.Test.YtahmioiefmheeaaDoorLTags
namespace Go.Proofs.YtahmioiefmheeaaDoor
open Go.RowKit

/-- A literal of one row of bytes. -/
theorem holds_one {w : World} {M : Nat} {a : Option Addr} {n c : Nat} {l : List Int} (h : HoldsB w M (.slice a n c) l) (hM : M ≤ w.heap.size) :
    HoldsP (w.alloc (.cells #[.slice a n c] 22)) (.slice (some ⟨w.heap.size, 0, none⟩) 1 1) [l] := by
  refine ⟨_, 1, rfl, by unfold maxLen; simp, fun i hi => ?_⟩
  have h0 : i = 0 := by simpa using hi
  subst h0
  refine ⟨w.heap.size, 0, a, n, c, rfl, by simp, ?_, ?_⟩
  · exact (Blk.new w (.cells #[.slice a n c] 22)).cell 0
  · have h2 := (h.mono hM).alloc (.cells #[.slice a n c] 22)
    exact h2.mono (by simp)
theorem eq33 (t : List Int) (w : World) : (binOp .eql 33 (dgV (shortL t)) (dgV (shortL t))).run Tryd.prog w = .ok (.bool true) w := eql50 (shortL_bytes t) (shortL_len t) w
set_option maxRecDepth 100000 in
set_option maxHeartbeats 1000000 in
theorem macShorts_walk (x0 : Int) (a1 : Option Addr) (len1 cap1 : Nat) (z1 : List (List Int)) (w : World) (w0 : (Lit.int .u8 x0).wf = true) (w1 : HoldsP w (.slice a1 len1 cap1) z1) (g1 : z1.flatten.length ≤ 1048576) (hk : KonIs w) :
    Calls Tryd.prog 4 #[.int .u8 x0, .slice a1 len1 cap1] w fun e w' => e = .returned (.bool true) ∧ Below w.heap.size w w' := by
  have h8 : 0 ≤ x0 ∧ x0 ≤ 255 := by
    have h1 : IntKind.u8.min = 0 := rfl
    have h2 : IntKind.u8.max = 255 := rfl
    simpa [Lit.wf, h1, h2] using w0
  have hl : z1.length = len1 := by obtain ⟨a', n', c', e, hn⟩ := w1.slice; simp only [Value.slice.injEq] at e; omega
  have hlm : len1 ≤ maxLen := by obtain ⟨_, _, _, h2, _⟩ := w1; omega
  unfold maxLen at hlm
  have H8 := Kp.mk h8
  have HP := Kp.mk w1
  have HL := Kp.mk hl
  have HG := Kp.mk g1
  have HK := Kp.mk hk
  clear h8 w0 w1 hl g1 hk
  go_enter Tryd.func4, Tryd.ntmps4
  go_wp2_with fail
  obtain ⟨A, hA⟩ : ∃ A, A = w.heap.size := ⟨_, rfl⟩
  have HA := Kp.mk hA
  clear hA
  go_loopw [5, 10] (fun s5 c wr => ∃ (i N : Nat) (a5 : Option Addr) (c5 : Nat), i ≤ len1 ∧ c = .int .i64 i ∧ s5 = .slice a5 N c5 ∧ Kp (N = (z1.take i).flatten.length) ∧ wr.ownsRow A 5 1 (.slice a5 N c5) N (bv (z1.take i).flatten) ∧ Below A w wr) (fun _ c _ => len1 - (intOf c).toNat)
  case atStart => exact ⟨0, 0, none, 0, by omega, rfl, rfl, ⟨by simp⟩, by simpa using World.ownsRow_nil _ _ _ _, by rw [HA.out]; exact Below.refl _ _⟩
  case round =>
    obtain ⟨i, N, a5, c5, hi, rfl, rfl, HNN, h1, h2⟩ := hrel
    have G1 := Kp.mk h1
    have G2 := Kp.mk h2
    have HSz : Kp (A ≤ wr.heap.size) := ⟨by have := h2.size; have := HA.out; omega⟩
    clear h1 h2
    by_cases hlt : i < len1
    · obtain ⟨b, off, a2, n2, c2, rfl, hbw, hcell, hp⟩ : ∃ b off a2 n2 c2, a1 = some ⟨b, off, none⟩ ∧ b < w.heap.size ∧ w.cell? ⟨b, off + i, none⟩ = some (.slice a2 n2 c2) ∧ HoldsB w w.heap.size (.slice a2 n2 c2) (z1.getD i []) := by
        obtain ⟨a', cap', e, _, h3⟩ := HP.out
        simp only [Value.slice.injEq] at e
        obtain ⟨rfl, -, -⟩ := e
        obtain ⟨b, off, a1, n1, c1, e1, e2, e3, e4⟩ := h3 i (by rw [HL.out]; exact hlt)
        exact ⟨b, off, a1, n1, c1, e1, e2, e3, e4⟩
      have hc : wr.cell? ⟨b, off + i, none⟩ = some (.slice a2 n2 c2) := (World.cell?_of_block (w := w) (a := ⟨b, off + i, none⟩) (G2.out.block b (by rw [HA.out]; exact hbw))).trans hcell
      have HPp : Kp (HoldsB wr w.heap.size (.slice a2 n2 c2) (z1.getD i [])) := ⟨hp.keep (by rw [← HA.out]; exact G2.out)⟩
      have HFT := Kp.mk (flat_take z1 i (by rw [HL.out]; exact hlt))
      have HF2 := Kp.mk (flat_le2 z1 i (by rw [HL.out]; exact hlt))
      clear hcell hbw hp
      generalize z1.getD i [] = p at *
      generalize hQ : (z1.take i).flatten = q at *
      have HQq := Kp.mk hQ
      clear hQ
      have hN : N + p.length ≤ 1048576 := by have := HF2.out; have := HG.out; have := HNN.out; omega
      have hNb : N ≤ 1048576 := by omega
      have HN2 := Kp.mk hN
      clear hN
      go_wp2_with (at_builtin; refine wpList_append_holds rfl _ _ rfl A _ _ _ rfl G1.out _ _ p rfl HPp.out ?d0 ?d1 ?_)
      case d0 => have := HN2.out; omega
      case d1 => exact HSz.out
      intro v2 w2 ho hg
      have hbel : Below A w w2 := G2.out.trans (below_row_grown (Below.refl _ _) HSz.out G1.out hg)
      obtain ⟨L2, hL2⟩ : ∃ L2, L2 = N + p.length := ⟨_, rfl⟩
      have ho2 : w2.ownsRow A 5 1 v2 L2 (bv (z1.take (i + 1)).flatten) := by
        rw [HFT.out, hL2]
        simpa using ho
      obtain ⟨a3, c3, rfl⟩ := row_slice ho2
      have HO2 := Kp.mk ho2
      have HB2 := Kp.mk hbel
      have HL2 : Kp (L2 = (z1.take (i + 1)).flatten.length) := ⟨by rw [HFT.out, List.length_append]; have := HNN.out; omega⟩
      clear ho hg hbel ho2 hL2 hc
      go_wp2_with fail
      exact ⟨⟨i + 1, L2, a3, c3, by omega, by go_num, rfl, HL2, HO2.out, HB2.out⟩, by simp [intOf]; omega⟩
    · have hge : (len1 : Int) ≤ i := by omega
      have HO : Kp (HoldsB wr wr.heap.size (.slice a5 N c5) z1.flatten) := ⟨by
        have h := G1.out
        have e0 : z1.take i = z1 := List.take_of_length_le (by have := HL.out; omega)
        have hN := HNN.out
        rw [e0] at h hN
        have h2 := HoldsB.ofRow (l := z1.flatten) HP.out.flat (by rw [hN] at h; exact h)
        rw [hN]
        exact h2⟩
      have HB := G2
      clear hlt hi
      have hwr : ∀ W, Below A wr W → Below w.heap.size w W := fun W h => by rw [← HA.out]; exact HB.out.trans h
      have HW := Kp.mk hwr
      clear hwr
      go_wp2_with fail
      refine (awake5 wr (HK.out.keep (HW.out _ (Below.refl _ _)))).mono ?_
      rintro r wa ⟨rfl, h1⟩
      have B1 : Kp (Below wr.heap.size wr wa) := ⟨h1⟩
      clear h1
      go_wp2_with fail
      refine (short_any x0 a1 len1 cap1 z1 wa (HK.out.keep (HW.out _ (B1.out.mono HSz.out))) H8.out (HP.out.keep (HW.out _ (B1.out.mono HSz.out))) (by have := HG.out; omega)).mono ?_
      rintro r wb ⟨rfl, h2⟩
      have B2 : Kp (Below wr.heap.size wr wb) := ⟨B1.out.trans (h2.mono B1.out.size)⟩
      clear h2
      go_wp2_with fail
      refine (rshort_any x0 a1 len1 cap1 z1 wb H8.out (HP.out.keep (HW.out _ (B2.out.mono HSz.out))) (by have := HG.out; omega)).mono ?_
      rintro r wc ⟨rfl, h3⟩
      have B3 : Kp (Below wr.heap.size wr wc) := ⟨B2.out.trans (h3.mono B2.out.size)⟩
      clear h3
      have HQ := Kp.mk (eq33 (x0 :: z1.flatten))
      obtain ⟨d, hd⟩ : ∃ d, d = shortL (x0 :: z1.flatten) := ⟨_, rfl⟩
      have HD := Kp.mk hd
      rw [← hd] at HQ ⊢
      have hq := HQ.out
      have hg := eqg50
      clear hd
      go_wp2_with fail
      clear hq hg
      have HO3 : Kp (HoldsP (wc.alloc (.cells #[.slice a5 N c5] 22)) (.slice (some ⟨wc.heap.size, 0, none⟩) 1 1) [z1.flatten]) := ⟨holds_one (HO.out.keep B3.out) B3.out.size⟩
      have B3a : Kp (Below wr.heap.size wr (wc.alloc (.cells #[.slice a5 N c5] 22))) := ⟨B3.out.alloc B3.out.size _⟩
      generalize wc.alloc (.cells #[.slice a5 N c5] 22) = WC at *
      refine (short_any x0 _ 1 1 [z1.flatten] WC (HK.out.keep (HW.out _ (B3a.out.mono HSz.out))) H8.out HO3.out (by simp; have := HG.out; simp at this; omega)).mono ?_
      rintro r wd ⟨rfl, h4⟩
      have B4 : Kp (Below wr.heap.size wr wd) := ⟨B3a.out.trans (h4.mono B3a.out.size)⟩
      have HF1 : Kp ([z1.flatten].flatten = z1.flatten) := ⟨by simp⟩
      clear h4
      rw [HF1.out, ← HD.out]
      go_wp2_with fail
      refine (short_any x0 a1 len1 cap1 z1 wd (HK.out.keep (HW.out _ (B4.out.mono HSz.out))) H8.out (HP.out.keep (HW.out _ (B4.out.mono HSz.out))) (by have := HG.out; omega)).mono ?_
      rintro r we ⟨rfl, h5⟩
      have B5 : Kp (Below wr.heap.size wr we) := ⟨B4.out.trans (h5.mono B4.out.size)⟩
      clear h5
      rw [← HD.out]
      have hq := HQ.out
      have hg := eqg50
      go_wp2_with fail
      clear hq hg
      go_ret
      exact ⟨rfl, HW.out _ (B5.out.mono HSz.out)⟩
end Go.Proofs.YtahmioiefmheeaaDoor
