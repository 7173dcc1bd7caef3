/-
  Rows of short sums (OutH).
-/
import Derived.Test.YtgabjmmmiogfjaaDoorFuD
namespace Go.Proofs.YtgabjmmmiogfjaaDoor
open Go.RowKit

theorem range_below {w w' : World} {b o B : Nat} {C : List Value} (hc : w.rangeAt b o C) (h : Below B w w') (hb : b < B) : w'.rangeAt b o C :=
  fun j v hv => (h.cell (p := ⟨b, o + j, none⟩) hb).trans (hc j v hv)
theorem HoldsB.low {w w' : World} {M M' : Nat} {v : Value} {l l' : List Int} (h : HoldsB w M v l) (h' : HoldsB w' M' v l') : HoldsB w' M v l' := by
  obtain ⟨a, cap, e1, _, _, _, h5, _, _⟩ := h
  obtain ⟨a', cap', e2, k2, k3, k4, k5, k6, k7⟩ := h'
  subst e1
  simp only [Value.slice.injEq] at e2
  obtain ⟨rfl, e, rfl⟩ := e2
  exact ⟨a, cap, by rw [e], k2, k3, k4, fun x hx h0 => ⟨(k5 x hx h0).1, (h5 x hx (by omega)).2.1, (k5 x hx h0).2.2⟩, k6, k7⟩
def rsumsL (l S : List Int) (n : Nat) : List Int := (if (256 : Int) ^ 1 ≤ n then l else l ++ digs n 1) ++ S
set_option maxHeartbeats 3200000 in
theorem rosums_any (M : Nat) (v s : Value) (l S : List Int) (n : Nat) (f : Bool) (w : World) (h : HoldsB w M v l) (hs : HoldsS w s n S) (hn : n ≤ 1000000) (hM : M ≤ w.heap.size) (hlen : l.length ≤ 1000000000) :
    Calls Tryd.prog 58 #[routV v f, s] w (ROutPost v (rsumsL l S n) (numF f n 1) w) := by
  have H := Lib.hid h
  have HS := Lib.hid hs
  obtain ⟨a, m, cap, rfl, -⟩ := h.slice
  obtain ⟨a2, cap2, rfl, hl, -, hb, -⟩ := hs
  have HL := Lib.hid hl
  have HBY := Lib.hid hb
  have HM := Lib.hid hM
  have hE : Hid (rsumsL l S n = (if (256 : Int) ^ 1 ≤ n then l else l ++ digs n 1) ++ S) := rfl
  clear h hl hb hM
  generalize rsumsL l S n = LL at hE ⊢
  go_enter Tryd.func58, Tryd.ntmps58
  go_wp2_with fail
  have HB : Hid (Below w.heap.size w ((w.alloc (.cells #[.slice a m cap, .bool f] 122)).alloc (.cells #[.slice none 0 0, .bool false] 122))) := more (more (Below.refl _ _) _) _
  have HA : Hid (Blk ((w.alloc (.cells #[.slice a m cap, .bool f] 122)).alloc (.cells #[.slice none 0 0, .bool false] 122)) w.heap.size (.cells #[.slice a m cap, .bool f] 122)) := (Blk.new _ _).old _
  have HR : Hid (Blk ((w.alloc (.cells #[.slice a m cap, .bool f] 122)).alloc (.cells #[.slice none 0 0, .bool false] 122)) (w.heap.size + 1) (.cells #[.slice none 0 0, .bool false] 122)) := Blk.newAt _ (by simp)
  have HZ : Hid (((w.alloc (.cells #[.slice a m cap, .bool f] 122)).alloc (.cells #[.slice none 0 0, .bool false] 122)).heap.size = w.heap.size + 2) := by unfold Hid; simp
  generalize (w.alloc (.cells #[.slice a m cap, .bool f] 122)).alloc (.cells #[.slice none 0 0, .bool false] 122) = W at HB HA HR HZ ⊢
  refine (rnum_any M _ l f n 1 W (H.out.keep HB.out) (by have := HM.out; have := HZ.out; omega) (by omega) (by omega) (by omega) (by omega)).mono ?_
  rintro r w1 ⟨v1, rfl, h1, h1', hb1⟩
  have H1 := Lib.hid h1
  have H1' := Lib.hid h1'
  have HB1 : Hid (Below w.heap.size w w1) := HB.out.trans (hb1.mono (by have := HZ.out; omega))
  have HA1 := Lib.hid (HA.out.keep hb1)
  have HR1 := Lib.hid (HR.out.keep hb1)
  have HZ1 : Hid (w.heap.size + 2 ≤ w1.heap.size) := by have := hb1.size; have := HZ.out; show _ ≤ _; omega
  obtain ⟨L, hL⟩ : ∃ L, L = (if (256 : Int) ^ 1 ≤ n then l else l ++ digs n 1) := ⟨_, rfl⟩
  have hLl : L.length ≤ 1000000001 := by rw [hL]; split; omega; rw [List.length_append, digs_len]; omega
  rw [← hL] at H1 H1' hE
  generalize numF f n 1 = F at *
  obtain ⟨a1, m1, c1, rfl, -⟩ := h1.slice
  obtain ⟨e0, e1, g0, g1⟩ := HA1.out.two
  clear h1 h1' hb1 hL HA HR HB
  go_wp2_with fail
  go_loopw [5] (fun c wr => ∃ (i : Nat) (vo : Value), i ≤ n ∧ c = .int .i64 i ∧ HoldsB wr wr.heap.size vo (L ++ S.take (i * 16)) ∧ (vo = .slice a m cap ∨ wr.ownsRow (w.heap.size + 2) 5 1 vo (L ++ S.take (i * 16)).length (bv (L ++ S.take (i * 16)))) ∧
      Blk wr w.heap.size (.cells #[vo, .bool F] 122) ∧ Blk wr (w.heap.size + 1) (.cells #[.slice none 0 0, .bool false] 122) ∧ Below w.heap.size w wr) (fun c _ => n - (intOf c).toNat)
  case atStart =>
    have hT := ((Turn.same HA1.out).set 0 (.slice a1 m1 c1)).set 1 (.bool F)
    have lA := HA1.out.lt
    have hB1 : Below w.heap.size w _ := HB1.out.trans (hT.below (Nat.le_refl _) (by omega))
    rcases H1'.out with e | hrow
    · have k := (((H.out.low (e ▸ H1.out)).mono HM.out).frame hT.size (fun k hk hk2 => hT.other k hk2 (by omega))).mono (Nat.le_trans (Nat.le_of_lt lA) hT.size)
      rw [← e] at k
      exact ⟨0, .slice a1 m1 c1, by omega, rfl, by simpa using k, .inl e, hT.blk, hT.keep HR1.out (by omega), hB1⟩
    · have hrow2 := ownsRow_setCell_below (ownsRow_setCell_below (row_mono hrow (show w.heap.size + 2 ≤ _ by have := HZ.out; omega)) (a := ⟨w.heap.size, 0, none⟩) (by show w.heap.size < _; omega) (.slice a1 m1 c1)) (a := ⟨w.heap.size, 1, none⟩) (by show w.heap.size < _; omega) (.bool F)
      exact ⟨0, .slice a1 m1 c1, by omega, rfl, by simpa using HoldsB.ofRow H1.out.bytes hrow2, .inr (by simpa using hrow2), hT.blk, hT.keep HR1.out (by omega), hB1⟩
  case round =>
    obtain ⟨i, vo, hi', rfl, hvo, hvr, hA, hR, hB⟩ := hrel
    have HVO := Lib.hid hvo
    have HVR := Lib.hid hvr
    have HAW := Lib.hid hA
    have HRW := Lib.hid hR
    have HBW := Lib.hid hB
    obtain ⟨a5, m5, c5, rfl, -⟩ := hvo.slice
    obtain ⟨e0, e1, g0, g1⟩ := hA.two
    clear hvo hvr hB hA hR
    by_cases hlt : i < n
    · obtain ⟨b, off, rfl, hbl, hrange⟩ := HS.out.range hlt
      have HRG : Hid (wr.rangeAt b (off + i * 16) (bv (sumAt S i))) := range_below hrange HBW.out hbl
      have hlp := sumAt_len HL.out hlt
      have HPB := Lib.hid (sumAt_bytes HBY.out i)
      have HX : Hid (L ++ S.take (i * 16) ++ sumAt S i = L ++ S.take ((i + 1) * 16)) := by
        show _ = _
        unfold sumAt
        rw [List.append_assoc, show (i + 1) * 16 = i * 16 + 16 by omega, List.take_add]
      have HTL : Hid ((L ++ S.take (i * 16)).length ≤ 1000000000000) := by
        have h3 := HL.out
        show _ ≤ _
        rw [List.length_append, List.length_take]
        omega
      generalize sumAt S i = p at HRG hlp HX HPB
      have HC := Lib.hid (cells42 hlp)
      have HCL := Lib.hid (cellsL42 hlp)
      have HLP := Lib.hid hlp
      clear hrange hlp hbl
      go_wp2_with (first
        | (refine wpList_load_mid rfl 40 (.tmp 20) rfl b (off + i * 16) rfl (bv p) _ HRG.out Tryd.underlying40 rfl HCL.out ?_)
        | (refine wpList_store_row rfl 40 (.tmp 6) (.tmp 21) rfl wr.heap.size (bv p).toArray rfl rfl 40 _ (Blk.new wr z16p) HC.out (size51 HLP.out) (bv_all p) ?_))
      have HW : Hid (((wr.alloc z16p).setRow wr.heap.size (bv p).toArray) = wr.alloc (.cells (bv p).toArray 40)) := World.setRow_alloc_new _ _ _ _
      rw [HW.out]
      have HB2 : Hid (Below wr.heap.size wr (wr.alloc (.cells (bv p).toArray 40))) := more (Below.refl _ _) _
      have HP : Hid (HoldsB (wr.alloc (.cells (bv p).toArray 40)) (wr.heap.size + 1) (.slice (some ⟨wr.heap.size, 0, none⟩) 16 16) p) := by
        have k := HoldsB.box wr p HPB.out (by have := HLP.out; unfold maxLen; omega) 40
        rw [HLP.out] at k
        exact k
      have HA2 := Lib.hid (HAW.out.keep HB2.out)
      have HS2 : Hid ((wr.alloc (.cells (bv p).toArray 40)).heap.size = wr.heap.size + 1) := by unfold Hid; simp
      obtain ⟨k0, k1, q0, q1⟩ := HA2.out.two
      clear HW e0 e1 g0 g1
      generalize wr.alloc (.cells (bv p).toArray 40) = W2 at *
      go_wp2_with fail
      have HV2 : Hid (HoldsB W2 (wr.heap.size + 1) (.slice a5 m5 c5) (L ++ S.take (i * 16))) := (HVO.out.keep HB2.out).mono (Nat.le_succ _)
      have HL2 : Hid ((L ++ S.take (i * 16)).length + p.length ≤ 1099511627776) := by have := HTL.out; have := HLP.out; show _ ≤ _; omega
      go_region_with (go_at_call 57; refine (rraw_any (wr.heap.size + 1) (.slice a5 m5 c5) _ _ p F _ (HoldsB.drew HV2.out) (HoldsB.drew HP.out) HL2.out).mono ?_; rintro r w4 ⟨v4, rfl, ho, hb⟩; have HO := Lib.hid ho; have HB4 : Hid (Below W2.heap.size W2 w4) := ⟨hb.os, hb.tape, hb.output, hb.size, hb.block⟩; have HA4 := Lib.hid (HA2.out.keep HB4.out); obtain ⟨a7, n7, c7, rfl⟩ := row_shape ho; obtain ⟨j0, j1, j2, j3⟩ := HA4.out.two; clear ho hb k0 k1 q0 q1)
      go_wp2_with fail
      have hsz := HB4.out.size
      have hsz2 := HS2.out
      have hbw := HBW.out.size
      have lA := HAW.out.lt
      have lR := HRW.out.lt
      have hrow := ownsRow_setCell_below (ownsRow_setCell_below (row_mono HO.out (show w.heap.size + 2 ≤ _ by show _ ≤ W2.heap.size; omega)) (a := ⟨w.heap.size, 0, none⟩) (by show w.heap.size < _; omega) (.slice a7 n7 c7)) (a := ⟨w.heap.size, 1, none⟩) (by show w.heap.size < _; omega) (.bool F)
      rw [HX.out] at hrow
      have hT := ((Turn.same HA4.out).set 0 (.slice a7 n7 c7)).set 1 (.bool F)
      have hRW4 := (HRW.out.keep HB2.out).keep HB4.out
      have hall : Below w.heap.size w _ := ((HBW.out.trans (HB2.out.mono (by omega))).trans (HB4.out.mono (by omega))).trans (hT.below (Nat.le_refl _) (by omega))
      refine ⟨⟨i + 1, .slice a7 n7 c7, by omega, by go_num, HoldsB.ofRow ?_ hrow, .inr hrow, hT.blk, hT.keep hRW4 (by omega), hall⟩, by simp [intOf]; omega⟩
      have hby := HV2.out.bytes.append HPB.out
      rw [HX.out] at hby
      exact hby
    · obtain rfl : i = n := by omega
      obtain ⟨d0, d1, k0, k1⟩ := HRW.out.two
      have lt2 := HRW.out.lt
      go_wp2_with fail
      have hS : L ++ S.take (i * 16) = L ++ S := by rw [List.take_of_length_le (by have := HL.out; omega)]
      have hRF := (HRW.out.set 0 (.slice a5 m5 c5)).set 1 (.bool F)
      have hTR := (((Turn.same HRW.out).set 0 (.slice a5 m5 c5)).set 1 (.bool F)).below (B := w.heap.size) (by omega) (by omega)
      have hBF := HBW.out.trans hTR
      have hvr := HVR.out
      have hvo := HVO.out
      rw [hS] at hvr hvo
      refine bodyPost_ret (v := routV (.slice a5 m5 c5) F) (results_cell_row Tryd.results58 _ _ (w.heap.size + 1) 122 #[.slice a5 m5 c5, .bool F] (0, 0) _ rfl hRF Tryd.underlying122 rfl info28) rfl ⟨_, rfl, ?_, ?_, hBF⟩
      · rw [hE.out]
        rcases hvr with e | hrow
        · rw [e] at hvo
          have k := (((H.out.low hvo).mono HM.out).frame hTR.size (fun k hk _ => hTR.block k hk)).mono (Nat.le_trans HBW.out.size hTR.size)
          rw [← e] at k
          exact k
        · exact HoldsB.ofRow hvo.bytes (ownsRow_setCell_below (ownsRow_setCell_below hrow (a := ⟨w.heap.size + 1, 0, none⟩) (by show w.heap.size + 1 < _; omega) (.slice a5 m5 c5)) (a := ⟨w.heap.size + 1, 1, none⟩) (by show w.heap.size + 1 < _; omega) (.bool F))
      · rw [hE.out]
        rcases hvr with e | hrow
        · exact .inl e
        · exact .inr (row_mono (ownsRow_setCell_below (ownsRow_setCell_below hrow (a := ⟨w.heap.size + 1, 0, none⟩) (by show w.heap.size + 1 < _; omega) (.slice a5 m5 c5)) (a := ⟨w.heap.size + 1, 1, none⟩) (by show w.heap.size + 1 < _; omega) (.bool F)) (by omega))
end Go.Proofs.YtgabjmmmiogfjaaDoor
