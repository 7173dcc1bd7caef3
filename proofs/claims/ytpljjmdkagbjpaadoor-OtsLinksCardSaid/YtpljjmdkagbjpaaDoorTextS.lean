/-
  The document's Of.
-/
import Derived.Test.YtpljjmdkagbjpaaDoorShortR
import Derived.Test.YtpljjmdkagbjpaaDoorEq
import Derived.Test.YtpljjmdkagbjpaaDoorFlowP
namespace Go.Proofs.YtpljjmdkagbjpaaDoor
open Go.RowKit

theorem holds_one {w : World} {M : Nat} {a : Option Addr} {n c : Nat} {l : List Int} (h : HoldsB w M (.slice a n c) l) (hM : M ≤ w.heap.size) :
    HoldsP (w.alloc (.cells #[.slice a n c] 32)) (.slice (some ⟨w.heap.size, 0, none⟩) 1 1) [l] := by
  refine ⟨_, 1, rfl, by unfold maxLen; simp, fun i hi => ?_⟩
  have h0 : i = 0 := by simpa using hi
  subst h0
  refine ⟨w.heap.size, 0, a, n, c, rfl, by simp, ?_, ?_⟩
  · exact (Blk.new w (.cells #[.slice a n c] 32)).cell 0
  · have h2 := (h.mono hM).alloc (.cells #[.slice a n c] 32)
    exact h2.mono (by simp)
theorem holdsB_tail {w : World} {M : Nat} {v : Value} {k : Int} {l : List Int} (h : HoldsB w M v (k :: l)) :
    ∃ v', (∀ w1, (Instr.sliceAt 32 v (some (.int .i64 1)) none none).run Tryd.prog w1 = .ok v' w1) ∧ HoldsB w M v' l := by
  obtain ⟨v', h1, h2⟩ := h.back (k := 1) (by simp)
  exact ⟨v', h1, h2⟩
set_option maxRecDepth 100000 in
set_option maxHeartbeats 1000000 in
theorem of_any (M : Nat) (v : Value) (k : Int) (l : List Int) (w : World) (h : HoldsB w M v (k :: l)) (hlen : l.length ≤ 1000000) :
    Calls Tryd.prog 11 #[v] w fun q w' => q = .returned (dgV (shortL (k :: l))) ∧ Below w.heap.size w w' := by
  obtain ⟨vt, ht, hT⟩ := holdsB_tail h
  obtain ⟨a, len, cap, rfl, hlen0⟩ := h.slice
  obtain ⟨b, off, rfl, -, hc⟩ := h.cellAt (i := 0) (by simp)
  have hk8 : 0 ≤ k ∧ k ≤ 255 := h.bytes k (by simp)
  have hbw : b < w.heap.size := by
    obtain ⟨_, _, e, _, _, _, h5, _⟩ := h
    simp only [Value.slice.injEq] at e
    exact (h5 _ e.1.symm (by simp)).2.2
  obtain ⟨at0, nt, ct, rfl, -⟩ := hT.slice
  have HT := Kp.mk hT
  have H8 := Kp.mk hk8
  have HL := Kp.mk hlen
  have hc0 : w.cell? ⟨b, off, none⟩ = some (.int .u8 k) := by simpa using hc
  have HC0 := Kp.mk hc0
  have HBW := Kp.mk hbw
  have hpos : 0 < len := by rw [hlen0]; simp
  have HPO := Kp.mk hpos
  have HTT : Kp (∀ w1, (Instr.sliceAt 32 (.slice (some ⟨b, off, none⟩) len cap) (some (.int .i64 1)) none none).run Tryd.prog w1 = .ok (.slice at0 nt ct) w1) := ⟨ht⟩
  clear h hc hc0 hbw hk8 hT hlen hlen0 ht
  go_enter Tryd.func11, Tryd.ntmps11
  go_wp2_with fail
  obtain ⟨A, hA⟩ : ∃ A, A = w.heap.size := ⟨_, rfl⟩
  have HA := Kp.mk hA
  rw [← hA]
  refine wp_world (fun W => Row W A 25 .u8 (fill 16 []) ∧ Below A w W) ⟨Blk.newAt _ hA, by rw [hA]; exact more (Below.refl _ _) _⟩ ?_
  clear hA
  rintro W ⟨h1, h5⟩
  refine wp_region_pred (fun w' => Row w' A 25 .u8 (fill 16 []) ∧ Below A w w') [0, 1, 2, 3, 4, 5, 6] [7]
    (fun i w' v => match i with
      | 0 => v = .slice (some ⟨b, off, none⟩) len cap
      | 1 => v = .pointer (some ⟨b, off, none⟩)
      | 2 => v = .int .u8 k
      | 3 => v = .slice (some ⟨b, off, none⟩) len cap
      | 4 => v = .slice at0 nt ct
      | 5 => HoldsP w' v [l]
      | _ => v = dgV (shortL (k :: l)))
    [[], [(0, some 3)], [(1, some 4)], [], [(3, some 6)], [(4, some 7)], [(2, some 5), (5, some 8)]] [(0, some 3), (1, some 4), (2, some 5), (3, some 6), (4, some 7), (5, some 8), (6, some 9)]
    (by kernel_rfl) (by kernel_rfl) (by kernel_rfl) (by kernel_rfl) (by kernel_rfl) (by kernel_rfl) (by decide) (by decide) (fun w1 w2 h hb => ⟨h.1.keep hb, h.2.trans (hb.mono (Nat.le_of_lt h.1.lt))⟩) ?_ ⟨h1.drew, h5.drew⟩ ?_ ?_
  · intro i w1 w2 v h hb
    match i, h with
    | 0, h => exact h
    | 1, h => exact h
    | 2, h => exact h
    | 3, h => exact h
    | 4, h => exact h
    | 5, h => exact HoldsP.keep h hb
    | _ + 6, h => exact h
  · refine ⟨fun γ wx hS h => ⟨_, rfl, Or.inl ⟨rfl, ?_⟩⟩, fun γ wx hS h => ⟨_, rfl, Or.inl ⟨rfl, ?_⟩⟩, fun γ wx hS h => ⟨_, rfl, Or.inl ⟨rfl, ?_⟩⟩, fun γ wx hS h => ⟨_, rfl, Or.inl ⟨rfl, ?_⟩⟩, fun γ wx hS h => ⟨_, rfl, Or.inl ⟨rfl, ?_⟩⟩, fun γ wx hS h => ⟨_, rfl, Or.inl ⟨rfl, ?_⟩⟩, fun γ wx hS h => ⟨_, rfl, Or.inl ⟨rfl, ?_⟩⟩, trivial⟩
    · exact predRun_value rfl rfl
    · have h0' : γ 0 = .slice (some ⟨b, off, none⟩) len cap := h
      exact predRun_value (v := .pointer (some ⟨b, off, none⟩)) (by simp only [putE, h0']; have := HPO.out; go_simp) rfl
    · have h1' : γ 1 = .pointer (some ⟨b, off, none⟩) := h
      have hc : wx.cell? ⟨b, off, none⟩ = some (.int .u8 k) := (World.cell?_of_block (w := w) (a := ⟨b, off, none⟩) (hS.2.block b (by rw [HA.out]; exact HBW.out))).trans HC0.out
      exact predRun_value (v := .int .u8 k) (by simp only [putE, h1']; go_simp) rfl
    · exact predRun_value rfl rfl
    · have h3' : γ 3 = .slice (some ⟨b, off, none⟩) len cap := h
      have ht := HTT.out
      exact predRun_value (v := .slice at0 nt ct) (by simp only [putE, h3']; go_simp) rfl
    · have h4' : γ 4 = .slice at0 nt ct := h
      have hT2 : HoldsB wx wx.heap.size (.slice at0 nt ct) l := (HT.out.keep (by rw [← HA.out]; exact hS.2)).own
      exact predRun_new (w' := wx.alloc (.cells #[.slice at0 nt ct] 32)) (v := .slice (some ⟨wx.heap.size, 0, none⟩) 1 1) (by simp only [putE, h4']; go_simp) (more (Below.refl _ _) _) (holds_one hT2 (Nat.le_refl _))
    · obtain ⟨h2, h5⟩ := h
      have h2' : γ 2 = .int .u8 k := h2
      have h5' : HoldsP wx (γ 5) [l] := h5
      obtain ⟨a, n, c, e5, _⟩ := h5'.slice
      rw [e5] at h5'
      refine predRun_call (f := 44) (args := #[γ 2, γ 5]) (by simp only [putE]; go_simp) ?_
      rw [e5, h2']
      refine (rshort_any k a n c _ wx H8.out h5' (by simp; have := HL.out; omega)).mono ?_
      rintro q w2 ⟨rfl, hb⟩
      exact ⟨_, rfl, congrArg (fun t => dgV (shortL (k :: t))) (by simp), hb⟩
  · intro γ w9 hS h
    have h6 : γ 6 = dgV (shortL (k :: l)) := h.2.2.2.2.2.2
    obtain ⟨z, hz⟩ : ∃ z, z = shortL (k :: l) := ⟨_, rfl⟩
    have HD := Kp.mk (shortL_len (k :: l))
    rw [← hz] at h6 HD
    have HC := Kp.mk (cells49 HD.out)
    have HZ := Kp.mk (size50 HD.out)
    have HF := Kp.mk (hS.1.setRow z)
    have HBf := Kp.mk (Below.row hS.2 (g := A) (Nat.le_refl _) (kv .u8 z).toArray)
    simp only [putE, Act.put, List.setIfInBounds_toArray, List.set_cons_zero, List.set_cons_succ]
    rw [h6]
    refine wpOps_step rfl rfl ?_
    refine wp_store_row 25 (.tmp 2) (.tmp 9) rfl A (kv .u8 z).toArray rfl rfl 25 _ hS.1 HC.out HZ.out (kv_all _ _) ?_
    refine wpOps_done ?_
    have HK9 := Kp.mk hz
    clear h hS h6 hz
    go_wp2_with fail
    refine bodyPost_ret (v := dgV z) ?_ rfl ⟨by rw [HK9.out], by rw [← HA.out]; exact HBf.out⟩
    exact results_cell_row rfl _ _ A 25 _ (0, 0) _ rfl HF.out Tryd.underlying25 rfl HC.out
end Go.Proofs.YtpljjmdkagbjpaaDoor
