/-
  The walk of the law FieldStops.
-/
import Derived.Test.YtgpjffchpppceaaStop
namespace Go.Proofs.Ytgpjffchpppceaa
open Go.RowKit

set_option maxRecDepth 100000 in
set_option maxHeartbeats 6400000 in
theorem fieldStops_walk (a0 : Option Addr) (len0 cap0 : Nat) (z : List Int) (a1 : Option Addr) (len1 cap1 : Nat) (C : Nat → List Value) (e0 : Int) (a3 : Option Addr) (len3 cap3 : Nat) (D : Nat → List Value) (w : World)
    (hz : HoldsB w w.heap.size (.slice a0 len0 cap0) z) (hreach : len0 ≤ 140737488351232) (hC : IsItems w a1 len1 C) (he0 : (Lit.int .i64 e0).wf = true) (hD : IsItems w a3 len3 D) :
    Calls Try.prog 6 #[.slice a0 len0 cap0, .slice a1 len1 cap1, .int .i64 e0, .slice a3 len3 cap3] w fun r w' => r = .returned (.bool true) ∧ Below w.heap.size w w' := by
  have hlen : len0 = z.length := by
    obtain ⟨_, n1, _, h1, h2⟩ := hz.slice
    simp only [Value.slice.injEq] at h1
    omega
  have HZ := Lib.hid hz
  obtain ⟨hl1, hC⟩ := hC
  obtain ⟨hl3, hD⟩ := hD
  unfold maxLen at hl1 hl3
  have HC := Lib.hid hC
  have HD := Lib.hid hD
  have HLEN := Lib.hid hlen
  have HRE := Lib.hid hreach
  have HE0 := Lib.hid he0
  clear hz hC hD hlen hreach he0
  go_enter Try.func6, Try.ntmps6
  go_wp2_with fail
  refine (take_row _ _ z _ HZ.out (by have := HLEN.out; have := HRE.out; omega)).mono ?_
  rintro r w1 ⟨I, v, rfl, hI, hblk, hrow, hown, hbel⟩
  have hIl := hblk.lt
  have HS : Hid (Bth I I w1.heap.size z z 0 0 0 (w1.alloc (refObj (.slice a0 len0 cap0) 0 0)) (w1.alloc (refObj (.slice a0 len0 cap0) 0 0))) := by
    refine Bth.start ((InIs.ofRow hblk HZ.out.bytes hrow hown).keep (more (Below.refl _ _) _)) ⟨by omega, ⟨_, ?_, Blk.new _ _⟩, Nat.zero_le _⟩
    exact ((HZ.out.keep hbel).mono hI).alloc _
  have HBW : Hid (Below w.heap.size w (w1.alloc (refObj (.slice a0 len0 cap0) 0 0))) := more hbel _
  have HI : Hid (w.heap.size ≤ I ∧ I < w1.heap.size ∧ w.heap.size ≤ w1.heap.size ∧ w1.heap.size < (w1.alloc (refObj (.slice a0 len0 cap0) 0 0)).heap.size) := ⟨hI, hIl, hbel.size, by simp⟩
  clear hI hblk hrow hown hbel hIl
  go_wp2_with fail
  generalize w1.alloc (refObj (.slice a0 len0 cap0) 0 0) = W2 at HS HBW HI ⊢
  generalize w1.heap.size = R at HS HI ⊢
  go_loopw [23] (fun c wr => ∃ (i : Nat) (l : List Int) (e : Int) (at' : Nat), i ≤ len1 ∧ c = .int .i64 i ∧ Rel l e z at' ∧ Bth I I R z l e at' e W2 wr) (fun c _ => len1 - (intOf c).toNat)
  case atStart => exact ⟨0, _, _, _, by omega, rfl, Rel.start z, HS.out⟩
  case round =>
    obtain ⟨i, l, e, at', hi, rfl, hrel, hbth⟩ := hrel
    have HREL := Lib.hid hrel
    have HB := Lib.hid hbth
    clear hrel hbth
    by_cases hlt : i < len1
    · obtain ⟨b, off, rfl, hbl, hc⟩ := HC.out (by omega)
      obtain ⟨hrange, kind, most, hitem⟩ := hc i hlt
      have HR3 : Hid (wr.rangeAt b (off + i * 21) (C i)) := HB.out.range (range_below hrange HBW.out hbl) (by have := HBW.out.size; omega) (by have := HI.out; omega) (by have := HI.out; omega)
      have HIT := Lib.hid hitem
      have HG : Hid (((wr.alloc z45).setRow wr.heap.size (C i).toArray).heap[wr.heap.size]? = some (.cells (C i).toArray 45 (0, 0))) := (Blk.new wr z45).setRow _
      have HB3 := Lib.hid (HB.out.below (Below.row (more (Below.refl _ wr) z45) (Nat.le_refl _) (C i).toArray))
      have H45 := Lib.hid (info45' HIT.out.len)
      have HL45 := Lib.hid (infoL45 HIT.out.len)
      clear hc hrange hitem hbl
      by_cases h60 : i < 60
      · go_wp2_with (first
          | (refine wpList_load_mid rfl 45 (.tmp 26) rfl b (off + i * 21) rfl (C i) _ HR3.out Try.underlying45 rfl HL45.out ?_)
          | (refine wpList_store_row rfl 45 (.tmp 12) (.tmp 27) rfl wr.heap.size (C i).toArray rfl rfl 45 _ (Blk.new wr z45) H45.out (size45 HIT.out.len) (all45 HIT.out.one) ?_)
          | (refine wpList_load_row rfl 45 (.tmp 12) rfl wr.heap.size rfl 45 (C i).toArray (0, 0) _ HG.out Try.underlying45 rfl H45.out ?_))
        refine (takes_any I I R z l e at' (C i).toArray kind most _ HB3.out.i HB3.out.r HREL.out (by have := HI.out; omega) (by simpa using HIT.out.k) (by simpa using HIT.out.m) (by simp [HIT.out.len]) HIT.out.m0 HIT.out.m1).mono ?_
        rintro r w5 ⟨rfl, l2, e2, at2, hrel2, hb2⟩
        have HF : Hid (Rel l2 e2 z at2 ∧ Bth I I R z l2 e2 at2 e2 W2 w5) := ⟨hrel2, Bth.trans HB3.out hb2⟩
        clear hrel2 hb2
        go_wp2_with fail
        exact ⟨⟨i + 1, l2, e2, at2, by omega, by go_num, HF.out⟩, by simp [intOf]; omega⟩
      · have h60' : (60 : Int) ≤ i := by omega
        go_wp2_with (first
          | (refine wpList_load_mid rfl 45 (.tmp 26) rfl b (off + i * 21) rfl (C i) _ HR3.out Try.underlying45 rfl HL45.out ?_)
          | (refine wpList_store_row rfl 45 (.tmp 12) (.tmp 27) rfl wr.heap.size (C i).toArray rfl rfl 45 _ (Blk.new wr z45) H45.out (size45 HIT.out.len) (all45 HIT.out.one) ?_))
        exact ⟨⟨i + 1, l, e, at', by omega, by go_num, HREL.out, HB3.out⟩, by simp [intOf]; omega⟩
    · have HF := Lib.hid (fails_pos e0)
      go_wp2_with fail
      generalize wrap64 (IntKind.u64.wrap (1 + (IntKind.u64.wrap e0).tmod 40)) = f at HF ⊢
      refine (fail_any I I l e f _ HB.out.i).mono ?_
      rintro r w5 ⟨rfl, hs⟩
      have hst := HB.out.i.stopped HF.out
      have hS0 : Stp w.heap.size I (failE e f) w w5 := by
        obtain ⟨h1, o, ho⟩ := hs
        have hbl : Below w.heap.size w wr := by
          have hB := HB.out
          have hA := HI.out
          have hW := HBW.out
          exact hW.trans ⟨hB.os, hB.tape, hB.output, hB.size, fun k hk => hB.other k (by omega) (by omega) (by omega)⟩
        rw [hst.1] at h1
        exact ⟨h1, hbl.trans (ho.below HI.out.1 (by have := HB.out.i.lt; have := HI.out; omega)), HI.out.1, hst.2⟩
      have HST := Lib.hid hS0
      have hF : (failE e f == 0) = false := by simpa using hst.2
      clear hs hst hS0
      generalize failE e f = F at HST hF ⊢
      go_wp2_with fail
      refine (err_stop HST.out).mono ?_
      rintro r w6 ⟨rfl, hs6, -⟩
      have HS6 := Lib.hid hs6
      clear hs6
      go_wp2_with fail
      go_loopw [48] (fun c wq => ∃ (k : Nat), k ≤ len3 ∧ c = .int .i64 k ∧ Stp w.heap.size I F w wq) (fun c _ => len3 - (intOf c).toNat)
      case atStart => exact ⟨0, by omega, rfl, HS6.out⟩
      case round =>
        obtain ⟨k, hk, rfl, hstp⟩ := hrel
        have HS := Lib.hid hstp
        clear hstp
        by_cases hlt3 : k < len3
        · obtain ⟨b, off, rfl, hbl, hc⟩ := HD.out (by omega)
          obtain ⟨hrange, kind, most, hitem⟩ := hc k hlt3
          have HR3 : Hid (wr.rangeAt b (off + k * 21) (D k)) := range_below hrange HS.out.below hbl
          have HIT := Lib.hid hitem
          have HG : Hid (Blk ((wr.alloc z45).setRow wr.heap.size (D k).toArray) wr.heap.size (.cells (D k).toArray 45)) := (Blk.new wr z45).setRow _
          have hIq := HS.out.is.lt
          have HS3 : Hid (Stp w.heap.size I F w ((wr.alloc z45).setRow wr.heap.size (D k).toArray)) :=
            ⟨HS.out.is.keep (Below.row (more (Below.refl _ wr) z45) (Nat.le_refl _) (D k).toArray), HS.out.below.trans ((Below.row (more (Below.refl _ wr) z45) (Nat.le_refl _) (D k).toArray).mono HS.out.size), HS.out.le, HS.out.err⟩
          have HNE : Hid (wr.heap.size ≠ I) := by show wr.heap.size ≠ I; omega
          have H45 := Lib.hid (info45' HIT.out.len)
          have HL45 := Lib.hid (infoL45 HIT.out.len)
          clear hc hrange hitem hbl hIq
          by_cases h60 : k < 60
          · have h60' : ¬ (60 : Int) ≤ k := by omega
            go_wp2_with (first
              | (refine wpList_load_mid rfl 45 (.tmp 51) rfl b (off + k * 21) rfl (D k) _ HR3.out Try.underlying45 rfl HL45.out ?_)
              | (refine wpList_store_row rfl 45 (.tmp 15) (.tmp 52) rfl wr.heap.size (D k).toArray rfl rfl 45 _ (Blk.new wr z45) H45.out (size45 HIT.out.len) (all45 HIT.out.one) ?_))
            generalize (wr.alloc z45).setRow wr.heap.size (D k).toArray = v0 at HG HS3 ⊢
            generalize wr.heap.size = g at HG HNE ⊢
            refine (u8_stop HS3.out).mono ?_
            rintro r v1 ⟨rfl, hs, hkp⟩
            have K1 : Hid (Stp w.heap.size I F w v1 ∧ Blk v1 g (.cells (D k).toArray 45)) := ⟨hs, hkp _ _ HNE.out HG.out⟩
            clear hs hkp HG HS3
            go_wp2_with fail
            refine (u16_stop K1.out.1).mono ?_
            rintro r v2 ⟨rfl, hs, hkp⟩
            have K2 : Hid (Stp w.heap.size I F w v2 ∧ Blk v2 g (.cells (D k).toArray 45)) := ⟨hs, hkp _ _ HNE.out K1.out.2⟩
            clear hs hkp K1
            go_wp2_with fail
            refine (u32_stop K2.out.1).mono ?_
            rintro r v3 ⟨rfl, hs, hkp⟩
            have K3 : Hid (Stp w.heap.size I F w v3 ∧ Blk v3 g (.cells (D k).toArray 45)) := ⟨hs, hkp _ _ HNE.out K2.out.2⟩
            clear hs hkp K2
            go_wp2_with fail
            refine (u64_stop K3.out.1).mono ?_
            rintro r v4 ⟨rfl, hs, hkp⟩
            have K4 : Hid (Stp w.heap.size I F w v4 ∧ Blk v4 g (.cells (D k).toArray 45)) := ⟨hs, hkp _ _ HNE.out K3.out.2⟩
            clear hs hkp K3
            go_wp2_with fail
            refine (sum_stop K4.out.1).mono ?_
            rintro r v5 ⟨rfl, hs, hkp⟩
            have K5 : Hid (Stp w.heap.size I F w v5 ∧ Blk v5 g (.cells (D k).toArray 45)) := ⟨hs, hkp _ _ HNE.out K4.out.2⟩
            clear hs hkp K4
            have hbe5 : Blk v5 g (.cells (D k).toArray 45) := K5.out.2
            have c20 := hbe5.cell 20
            have hm20 : (D k).toArray[20]? = some (.int .i64 most) := by simpa using HIT.out.m
            rw [hm20] at c20
            clear hbe5 hm20
            have q1 := neg_z
            have q2 := neq_z
            go_wp2_with fail
            refine (sums_stop K5.out.1 HIT.out.m0 HIT.out.m1).mono ?_
            rintro r v6 ⟨a6, c6, rfl, hs, hkp⟩
            have K6 : Hid (Stp w.heap.size I F w v6 ∧ Blk v6 g (.cells (D k).toArray 45)) := ⟨hs, hkp _ _ HNE.out K5.out.2⟩
            clear hs hkp K5 c20 q1 q2
            have hbe6 : Blk v6 g (.cells (D k).toArray 45) := K6.out.2
            have c20 := hbe6.cell 20
            have hm20 : (D k).toArray[20]? = some (.int .i64 most) := by simpa using HIT.out.m
            rw [hm20] at c20
            clear hbe6 hm20
            go_wp2_with fail
            refine (blob_stop K6.out.1 HIT.out.m0 HIT.out.m1).mono ?_
            rintro r v7 ⟨a7, c7, rfl, hs, -⟩
            have K7 := Lib.hid hs
            clear hs K6 c20
            go_wp2_with fail
            refine (left_stop K7.out).mono ?_
            rintro r v8 ⟨rfl, hs, -⟩
            have K8 := Lib.hid hs
            clear hs K7
            go_wp2_with fail
            refine (err_stop K8.out).mono ?_
            rintro r v9 ⟨rfl, hs, -⟩
            have K9 := Lib.hid hs
            clear hs K8
            go_wp2_with fail
            exact ⟨⟨k + 1, by omega, by go_num, K9.out⟩, by simp [intOf]; omega⟩
          · have h60' : (60 : Int) ≤ k := by omega
            go_wp2_with (first
              | (refine wpList_load_mid rfl 45 (.tmp 51) rfl b (off + k * 21) rfl (D k) _ HR3.out Try.underlying45 rfl HL45.out ?_)
              | (refine wpList_store_row rfl 45 (.tmp 15) (.tmp 52) rfl wr.heap.size (D k).toArray rfl rfl 45 _ (Blk.new wr z45) H45.out (size45 HIT.out.len) (all45 HIT.out.one) ?_))
            generalize (wr.alloc z45).setRow wr.heap.size (D k).toArray = v0 at HG HS3 ⊢
            refine (awake_any _).mono ?_
            rintro r v1 ⟨rfl, hb⟩
            have K1 : Hid (Stp w.heap.size I F w v1) := ⟨HS3.out.is.keep hb, HS3.out.below.trans (hb.mono HS3.out.size), HS3.out.le, HS3.out.err⟩
            clear hb
            go_wp2_with fail
            refine (end_stop K1.out).mono ?_
            rintro r v2 ⟨rfl, hb⟩
            have K2 := Lib.hid hb
            clear hb
            go_wp2_with fail
            go_ret
            exact ⟨rfl, K2.out⟩
        · go_wp2_with fail
          refine (awake_any _).mono ?_
          rintro r v1 ⟨rfl, hb⟩
          have K1 : Hid (Stp w.heap.size I F w v1) := ⟨HS.out.is.keep hb, HS.out.below.trans (hb.mono HS.out.size), HS.out.le, HS.out.err⟩
          clear hb
          go_wp2_with fail
          refine (end_stop K1.out).mono ?_
          rintro r v2 ⟨rfl, hb⟩
          have K2 := Lib.hid hb
          clear hb
          go_wp2_with fail
          go_ret
          exact ⟨rfl, K2.out⟩
end Go.Proofs.Ytgpjffchpppceaa
