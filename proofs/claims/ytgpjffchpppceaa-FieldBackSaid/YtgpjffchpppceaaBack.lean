/-
  The walk of the law FieldBack.
-/
import Derived.Test.YtgpjffchpppceaaLays
import Derived.Test.YtgpjffchpppceaaBackM
namespace Go.Proofs.Ytgpjffchpppceaa
open Go.RowKit

theorem u8_back (M I : Nat) (R : List Int) (n : Int) (w : World) (h : InIs w M I (digs n 1 ++ R) 0) (h0 : 0 ≤ n) (h1 : n < 256 ^ 1) :
    Calls Try.prog 17 #[.pointer (some ⟨I, 0, none⟩)] w fun r w' => r = .returned (.int .u64 n) ∧ InStep M I R 0 w w' := by
  obtain ⟨e1, e2, e3⟩ := next_app (p := digs n 1) (R := R) (digs_len n 1)
  have k := u8_any M I _ 0 w h
  rw [e1, e2, e3, numOf_digs 1 n h0 h1 (by omega)] at k
  exact k
theorem u16_back (M I : Nat) (R : List Int) (n : Int) (w : World) (h : InIs w M I (digs n 2 ++ R) 0) (h0 : 0 ≤ n) (h1 : n < 256 ^ 2) :
    Calls Try.prog 18 #[.pointer (some ⟨I, 0, none⟩)] w fun r w' => r = .returned (.int .u64 n) ∧ InStep M I R 0 w w' := by
  obtain ⟨e1, e2, e3⟩ := next_app (p := digs n 2) (R := R) (digs_len n 2)
  have k := u16_any M I _ 0 w h
  rw [e1, e2, e3, numOf_digs 2 n h0 h1 (by omega)] at k
  exact k
theorem u32_back (M I : Nat) (R : List Int) (n : Int) (w : World) (h : InIs w M I (digs n 4 ++ R) 0) (h0 : 0 ≤ n) (h1 : n < 256 ^ 4) :
    Calls Try.prog 19 #[.pointer (some ⟨I, 0, none⟩)] w fun r w' => r = .returned (.int .u64 n) ∧ InStep M I R 0 w w' := by
  obtain ⟨e1, e2, e3⟩ := next_app (p := digs n 4) (R := R) (digs_len n 4)
  have k := u32_any M I _ 0 w h
  rw [e1, e2, e3, numOf_digs 4 n h0 h1 (by omega)] at k
  exact k
theorem u64_back (M I : Nat) (R : List Int) (n : Int) (w : World) (h : InIs w M I (digs n 8 ++ R) 0) (h0 : 0 ≤ n) (h1 : n < 256 ^ 8) :
    Calls Try.prog 20 #[.pointer (some ⟨I, 0, none⟩)] w fun r w' => r = .returned (.int .u64 n) ∧ InStep M I R 0 w w' := by
  obtain ⟨e1, e2, e3⟩ := next_app (p := digs n 8) (R := R) (digs_len n 8)
  have k := u64_any M I _ 0 w h
  rw [e1, e2, e3, numOf_digs 8 n h0 h1 (by omega)] at k
  exact k
theorem InStep.cell {M I X j : Nat} {l : List Int} {e : Int} {w w' : World} {v : Value} (h : InStep M I l e w w') (hne : X ≠ I) (hc : w.cell? ⟨X, j, none⟩ = some v) : w'.cell? ⟨X, j, none⟩ = some v := by
  obtain ⟨_, o, ho⟩ := h
  exact cell_turn ho hne hc
theorem sum_back (M I : Nat) (R p : List Int) (w : World) (h : InIs w M I (p ++ R) 0) (hp : p.length = 16) :
    Calls Try.prog 21 #[.pointer (some ⟨I, 0, none⟩)] w fun r w' => r = .returned (sumV p) ∧ InStep M I R 0 w w' := by
  obtain ⟨e1, e2, e3⟩ := sum_app (p := p) (R := R) hp
  have k := sum_any M I _ 0 w h
  rw [e1, e2, e3] at k
  exact k
theorem InStep.range {M I X off : Nat} {l : List Int} {e : Int} {w w' : World} {cs : List Value} (h : InStep M I l e w w') (hne : X ≠ I) (hc : w.rangeAt X off cs) : w'.rangeAt X off cs := fun j u hu => h.cell hne (hc j u hu)
theorem sums_back (M I : Nat) (R S : List Int) (n : Nat) (w : World) (h : InIs w M I (digs n 1 ++ (S ++ R)) 0) (hS : S.length = n * 16) (hn : (n : Int) < 256 ^ 1) :
    Calls Try.prog 24 #[.pointer (some ⟨I, 0, none⟩), .int .i64 255] w fun r w' => ∃ v, r = .returned v ∧ w'.ownsRow w.heap.size 51 16 v n (bv S) ∧ InStep M I R 0 w w' := by
  obtain ⟨e1, e2, e3⟩ := sums_app (R := R) hS hn
  refine (sums_any M I _ 0 255 w h (by omega) (by omega)).mono ?_
  rintro r w' ⟨v, m, rfl, h1, h2, h3, h4⟩
  rw [e1] at h1 h3
  rw [e2, e3] at h4
  obtain rfl : m = n := by omega
  exact ⟨v, rfl, h3, h4⟩
theorem blob_back (M I : Nat) (R B : List Int) (w : World) (h : InIs w M I (digs B.length 2 ++ (B ++ R)) 0) (hB : B.length ≤ 4096) :
    Calls Try.prog 25 #[.pointer (some ⟨I, 0, none⟩), .int .i64 4096] w fun r w' => ∃ v, r = .returned v ∧ w'.ownsRow w.heap.size 5 1 v B.length (bv B) ∧ InStep M I R 0 w w' := by
  obtain ⟨e1, e2, e3⟩ := blob_app (R := R) hB
  refine (blob_any M I _ 0 4096 w h (by omega) (by omega)).mono ?_
  rintro r w' ⟨v, rfl, ⟨_, h1⟩, h4⟩
  rw [e1] at h1
  rw [e2, e3] at h4
  exact ⟨v, rfl, h1, h4⟩
theorem HoldsS.step {M I m : Nat} {l : List Int} {e : Int} {W0 w w' : World} {v : Value} {S : List Int} (h : HoldsS W0 v m S) (hb : Below W0.heap.size W0 w) (k : InStep M I l e w w') (hI : W0.heap.size ≤ I) : HoldsS w' v m S := by
  obtain ⟨_, o, ho⟩ := k
  exact h.keep (hb.trans (ho.below hI hb.size))
theorem HoldsB.step {M M' I : Nat} {l : List Int} {e : Int} {W0 w w' : World} {v : Value} {S : List Int} (h : HoldsB W0 M' v S) (hb : Below W0.heap.size W0 w) (k : InStep M I l e w w') (hI : W0.heap.size ≤ I) : HoldsB w' M' v S := by
  obtain ⟨_, o, ho⟩ := k
  exact h.keep (hb.trans (ho.below hI hb.size))
-- num_back
set_option maxRecDepth 100000 in
set_option maxHeartbeats 6400000 in
theorem fieldBack_walk (a0 : Option Addr) (len0 cap0 : Nat) (C : Nat → List Value) (w : World) (hC : IsFull w a0 len0 C) :
    Calls Try.prog 5 #[.slice a0 len0 cap0] w fun r w' => r = .returned (.bool true) ∧ Below w.heap.size w w' := by
  have HC := Lib.hid hC
  clear hC
  go_enter Try.func5, Try.ntmps5
  go_wp2_with fail
  refine (awake_any _).mono ?_
  rintro r w1 ⟨rfl, hb⟩
  have B1 := Lib.hid hb
  clear hb
  go_wp2_with fail
  refine (fits_any a0 len0 cap0 C w1 (HC.out.keep B1.out)).mono ?_
  rintro r w2 ⟨hr, hb⟩
  have BK := Lib.hid hb
  have B2 : Hid (Below w.heap.size w w2) := B1.out.trans (hb.mono B1.out.size)
  clear hb
  rcases hr with rfl | ⟨rfl, h60, hall⟩
  · go_wp2_with fail
    refine (awake_any _).mono ?_
    rintro r w3 ⟨rfl, hb⟩
    have B3 : Hid (Below w.heap.size w w3) := B2.out.trans (hb.mono B2.out.size)
    clear hb
    go_wp2_with fail
    go_ret
    exact ⟨rfl, B3.out⟩
  · obtain ⟨D, hD⟩ := full_items hall
    have HD := Lib.hid hD
    clear hD hall
    go_wp2_with fail
    refine (laid_any a0 len0 cap0 C D w2 (HC.out.keep B2.out) h60 (fun i hi => ⟨(HD.out i hi).1.keep BK.out, (HD.out i hi).2⟩)).mono ?_
    rintro r w3 ⟨O, K, vm, f, vr, lP, lD, rfl, hO, hK, hS⟩
    have hlP := hS.lenP
    obtain ⟨am, nm, cm, rfl, -⟩ := hS.ref.slice
    have S3 := Lib.hid (hS.keep (more (Below.refl _ w3) (.cells #[.slice am nm cm, .bool f] 28)))
    have B3 : Hid (Below w2.heap.size w2 (w3.alloc (.cells #[.slice am nm cm, .bool f] 28))) := S3.out.below
    clear hS
    go_wp2_with fail
    generalize w3.heap.size = X
    generalize w3.alloc (.cells #[.slice am nm cm, .bool f] 28) = w3 at *
    refine (bytes_any O vr lP f w3 S3.out.out (by omega)).mono ?_
    rintro r w4 ⟨vb, rfl, hrow, hb⟩
    have B4 : Hid (Below w2.heap.size w2 w4) := B3.out.trans (hb.mono B3.out.size)
    have hfl := S3.out.flag
    have hsm := S3.out.same
    cases f with
    | true =>
      obtain ⟨ab, nb, cb, rfl⟩ := row_shape hrow
      have hnb : nb = 0 := by
        have k := HoldsB.ofRow (l := []) Bytes.nil hrow
        obtain ⟨_, n1, _, h1, h2⟩ := k.slice
        simp only [Value.slice.injEq] at h1
        simp at h2
        omega
      subst hnb
      clear hrow hb hfl hsm
      go_wp2_with fail
      go_ret
      exact ⟨rfl, B2.out.trans (B4.out.mono B2.out.size)⟩
    | false =>
      have hZ := (hsm rfl).1
      have hbad := badU_each D len0 hfl.symm
      have HBAD := Lib.hid hbad
      have hV : HoldsB w4 w4.heap.size vb lP := HoldsB.ofRow S3.out.out.bytes hrow
      rw [hZ, ← restU_none] at hV
      have HV := Lib.hid hV
      obtain ⟨ab, nb, cb, rfl⟩ := row_shape hrow
      have hlR : (restU D len0 0).length ≤ 1000000 := by rw [restU_none, ← hZ]; omega
      clear hrow hb hfl hsm hZ hbad hV
      go_wp2_with fail
      refine (take_any w4.heap.size (.slice ab nb cb) _ w4 HV.out (by omega)).mono ?_
      rintro r w5 ⟨I, rfl, hI, hin, hb⟩
      have HI := Lib.hid hI
      have HIN := Lib.hid hin
      have B5 : Hid (Below w2.heap.size w2 w5) := B4.out.trans (hb.mono B4.out.size)
      clear hI hin hb
      go_wp2_with fail
      have hN : (0 : Int) ≤ 0 := Int.le_refl _
      go_loopw [38] (fun c wr => ∃ (i : Nat), i ≤ len0 ∧ c = .int .i64 i ∧ InIs wr I I (restU D len0 i) 0 ∧ Below w2.heap.size w2 wr) (fun c _ => len0 - (intOf c).toNat)
      case atStart => exact ⟨0, by omega, rfl, HIN.out, B5.out⟩
      case round =>
        obtain ⟨i, hi', rfl, hin, hbw⟩ := hrel
        have HIW := Lib.hid hin
        have HBW := Lib.hid hbw
        clear hin hbw HIN B5 HV hlR
        by_cases hlt : i < len0
        · obtain ⟨b, off, rfl, hbl, hc⟩ := HC.out.2 (by omega)
          obtain ⟨hrange, -⟩ := hc i hlt
          obtain ⟨hitem, hok⟩ := HD.out i hlt
          have HIT := Lib.hid (hitem.keep BK.out)
          have HIK := Lib.hid hok
          have hbd := HBAD.out i hlt
          have HREST := Lib.hid (restU_step D hlt)
          obtain ⟨e1, e2, e3, e4, e5, e6, e7⟩ := hitem.cells
          have HR := Lib.hid (range_below hrange (B2.out.trans (HBW.out.mono B2.out.size)) hbl)
          have H45 := Lib.hid (info45' e1)
          have HL45 := Lib.hid (infoL45 e1)
          have HSZ := Lib.hid (size45 e1)
          have HAL := Lib.hid (all45 e2)
          have HX : Hid (((wr.alloc z45).setRow wr.heap.size (C i).toArray) = wr.alloc (.cells (C i).toArray 45)) := World.setRow_alloc_new _ _ _ _
          have HBX : Hid (Below wr.heap.size wr (wr.alloc (.cells (C i).toArray 45))) := more (Below.refl _ _) _
          have HG := Lib.hid (Blk.new wr (.cells (C i).toArray 45))
          have HE3 := Lib.hid (And.intro e3 (And.intro e4 (And.intro e5 e6)))
          have HIX := Lib.hid (HIW.out.keep HBX.out)
          have hk := HG.out.cell 0
          rw [show (C i).toArray[0]? = _ by simpa using HE3.out.1] at hk
          obtain ⟨kd, hkd⟩ : ∃ kd, kd = (D i).kind := ⟨_, rfl⟩
          rw [← hkd] at hk
          have HKD := Lib.hid hkd
          clear hkd hc hrange hitem hbl hok e1 e2 e3 e4 e5 e6 e7
          by_cases h0 : kd = 0
          · subst h0
            go_wp2_with (first
              | (refine wpList_load_mid rfl 45 (.tmp 40) rfl b (off + i * 21) rfl (C i) _ HR.out Try.underlying45 rfl HL45.out ?_)
              | (refine wpList_store_row rfl 45 (.tmp 9) (.tmp 41) rfl wr.heap.size (C i).toArray rfl rfl 45 _ (Blk.new wr z45) H45.out HSZ.out HAL.out ?_)
              | (rw [HX.out]))
            have hnc := HG.out.cell 1
            rw [show (C i).toArray[1]? = _ by simpa using HE3.out.2.1] at hnc
            have hXI : wr.heap.size ≠ I := by have := HIW.out.lt; omega
            have hin : InIs (wr.alloc (.cells (C i).toArray 45)) I I (digs (D i).num 1 ++ restU D len0 (i + 1)) 0 := by
              have k := HIX.out
              rw [HREST.out, show enc (D i) = digs (D i).num 1 by unfold enc; rw [← HKD.out]; rfl] at k
              exact k
            have hlim : 0 ≤ (D i).num ∧ (D i).num < 256 ^ 1 := by
              have k : decide ((256 : Int) ^ 1 ≤ (D i).num) = false := by have k := hbd; unfold bad at k; rw [← HKD.out] at k; exact k
              have k2 := of_decide_eq_false k
              exact ⟨HIK.out.2.2.2.2.1, by omega⟩
            have HIN := Lib.hid hin
            have HLIM := Lib.hid hlim
            clear hin hlim hk hbd
            generalize (D i).num = num at *
            generalize wr.alloc (.cells (C i).toArray 45) = W at *
            go_region_with (go_at_call 17; refine (u8_back I I _ num _ HIN.out.drew HLIM.out.1 HLIM.out.2).mono ?_; rintro r wn ⟨rfl, hst⟩; have ST := Lib.hid hst.undrew; have hnc := ST.out.cell hXI hnc; clear hst)
            all_goals
              go_wp2_with fail
              refine (err_any I I (restU D len0 (i + 1)) 0 _ (by first | exact ST.out.is | exact ST.out.is.drew)).mono ?_
              rintro r wz ⟨rfl, rfl⟩
              go_wp2_with fail
              exact ⟨⟨i + 1, by omega, by go_num, by first | exact ST.out.is | exact ST.out.is.drew, HBW.out.trans ((HBX.out.mono HBW.out.size).trans (by obtain ⟨_, o, ho⟩ := ST.out; exact ho.below (by have := HI.out; have := B4.out.size; omega) (by have := HBX.out.size; have := HBW.out.size; omega)))⟩, by simp [intOf]; omega⟩
          by_cases h0 : kd = 1
          · subst h0
            go_wp2_with (first
              | (refine wpList_load_mid rfl 45 (.tmp 40) rfl b (off + i * 21) rfl (C i) _ HR.out Try.underlying45 rfl HL45.out ?_)
              | (refine wpList_store_row rfl 45 (.tmp 9) (.tmp 41) rfl wr.heap.size (C i).toArray rfl rfl 45 _ (Blk.new wr z45) H45.out HSZ.out HAL.out ?_)
              | (rw [HX.out]))
            have hnc := HG.out.cell 1
            rw [show (C i).toArray[1]? = _ by simpa using HE3.out.2.1] at hnc
            have hXI : wr.heap.size ≠ I := by have := HIW.out.lt; omega
            have hin : InIs (wr.alloc (.cells (C i).toArray 45)) I I (digs (D i).num 2 ++ restU D len0 (i + 1)) 0 := by
              have k := HIX.out
              rw [HREST.out, show enc (D i) = digs (D i).num 2 by unfold enc; rw [← HKD.out]; rfl] at k
              exact k
            have hlim : 0 ≤ (D i).num ∧ (D i).num < 256 ^ 2 := by
              have k : decide ((256 : Int) ^ 2 ≤ (D i).num) = false := by have k := hbd; unfold bad at k; rw [← HKD.out] at k; exact k
              have k2 := of_decide_eq_false k
              exact ⟨HIK.out.2.2.2.2.1, by omega⟩
            have HIN := Lib.hid hin
            have HLIM := Lib.hid hlim
            clear hin hlim hk hbd
            generalize (D i).num = num at *
            generalize wr.alloc (.cells (C i).toArray 45) = W at *
            go_region_with (go_at_call 18; refine (u16_back I I _ num _ HIN.out.drew HLIM.out.1 HLIM.out.2).mono ?_; rintro r wn ⟨rfl, hst⟩; have ST := Lib.hid hst.undrew; have hnc := ST.out.cell hXI hnc; clear hst)
            all_goals
              go_wp2_with fail
              refine (err_any I I (restU D len0 (i + 1)) 0 _ (by first | exact ST.out.is | exact ST.out.is.drew)).mono ?_
              rintro r wz ⟨rfl, rfl⟩
              go_wp2_with fail
              exact ⟨⟨i + 1, by omega, by go_num, by first | exact ST.out.is | exact ST.out.is.drew, HBW.out.trans ((HBX.out.mono HBW.out.size).trans (by obtain ⟨_, o, ho⟩ := ST.out; exact ho.below (by have := HI.out; have := B4.out.size; omega) (by have := HBX.out.size; have := HBW.out.size; omega)))⟩, by simp [intOf]; omega⟩
          by_cases h0 : kd = 2
          · subst h0
            go_wp2_with (first
              | (refine wpList_load_mid rfl 45 (.tmp 40) rfl b (off + i * 21) rfl (C i) _ HR.out Try.underlying45 rfl HL45.out ?_)
              | (refine wpList_store_row rfl 45 (.tmp 9) (.tmp 41) rfl wr.heap.size (C i).toArray rfl rfl 45 _ (Blk.new wr z45) H45.out HSZ.out HAL.out ?_)
              | (rw [HX.out]))
            have hnc := HG.out.cell 1
            rw [show (C i).toArray[1]? = _ by simpa using HE3.out.2.1] at hnc
            have hXI : wr.heap.size ≠ I := by have := HIW.out.lt; omega
            have hin : InIs (wr.alloc (.cells (C i).toArray 45)) I I (digs (D i).num 4 ++ restU D len0 (i + 1)) 0 := by
              have k := HIX.out
              rw [HREST.out, show enc (D i) = digs (D i).num 4 by unfold enc; rw [← HKD.out]; rfl] at k
              exact k
            have hlim : 0 ≤ (D i).num ∧ (D i).num < 256 ^ 4 := by
              have k : decide ((256 : Int) ^ 4 ≤ (D i).num) = false := by have k := hbd; unfold bad at k; rw [← HKD.out] at k; exact k
              have k2 := of_decide_eq_false k
              exact ⟨HIK.out.2.2.2.2.1, by omega⟩
            have HIN := Lib.hid hin
            have HLIM := Lib.hid hlim
            clear hin hlim hk hbd
            generalize (D i).num = num at *
            generalize wr.alloc (.cells (C i).toArray 45) = W at *
            go_region_with (go_at_call 19; refine (u32_back I I _ num _ HIN.out.drew HLIM.out.1 HLIM.out.2).mono ?_; rintro r wn ⟨rfl, hst⟩; have ST := Lib.hid hst.undrew; have hnc := ST.out.cell hXI hnc; clear hst)
            all_goals
              go_wp2_with fail
              refine (err_any I I (restU D len0 (i + 1)) 0 _ (by first | exact ST.out.is | exact ST.out.is.drew)).mono ?_
              rintro r wz ⟨rfl, rfl⟩
              go_wp2_with fail
              exact ⟨⟨i + 1, by omega, by go_num, by first | exact ST.out.is | exact ST.out.is.drew, HBW.out.trans ((HBX.out.mono HBW.out.size).trans (by obtain ⟨_, o, ho⟩ := ST.out; exact ho.below (by have := HI.out; have := B4.out.size; omega) (by have := HBX.out.size; have := HBW.out.size; omega)))⟩, by simp [intOf]; omega⟩
          by_cases h0 : kd = 3
          · subst h0
            go_wp2_with (first
              | (refine wpList_load_mid rfl 45 (.tmp 40) rfl b (off + i * 21) rfl (C i) _ HR.out Try.underlying45 rfl HL45.out ?_)
              | (refine wpList_store_row rfl 45 (.tmp 9) (.tmp 41) rfl wr.heap.size (C i).toArray rfl rfl 45 _ (Blk.new wr z45) H45.out HSZ.out HAL.out ?_)
              | (rw [HX.out]))
            have hnc := HG.out.cell 1
            rw [show (C i).toArray[1]? = _ by simpa using HE3.out.2.1] at hnc
            have hXI : wr.heap.size ≠ I := by have := HIW.out.lt; omega
            have hin : InIs (wr.alloc (.cells (C i).toArray 45)) I I (digs (D i).num 8 ++ restU D len0 (i + 1)) 0 := by
              have k := HIX.out
              rw [HREST.out, show enc (D i) = digs (D i).num 8 by unfold enc; rw [← HKD.out]; rfl] at k
              exact k
            have hlim : 0 ≤ (D i).num ∧ (D i).num < 256 ^ 8 := by
              have k : decide ((256 : Int) ^ 8 ≤ (D i).num) = false := by have k := hbd; unfold bad at k; rw [← HKD.out] at k; exact k
              have k2 := of_decide_eq_false k
              exact ⟨HIK.out.2.2.2.2.1, by omega⟩
            have HIN := Lib.hid hin
            have HLIM := Lib.hid hlim
            clear hin hlim hk hbd
            generalize (D i).num = num at *
            generalize wr.alloc (.cells (C i).toArray 45) = W at *
            go_region_with (go_at_call 20; refine (u64_back I I _ num _ HIN.out.drew HLIM.out.1 HLIM.out.2).mono ?_; rintro r wn ⟨rfl, hst⟩; have ST := Lib.hid hst.undrew; have hnc := ST.out.cell hXI hnc; clear hst)
            all_goals
              go_wp2_with fail
              refine (err_any I I (restU D len0 (i + 1)) 0 _ (by first | exact ST.out.is | exact ST.out.is.drew)).mono ?_
              rintro r wz ⟨rfl, rfl⟩
              go_wp2_with fail
              exact ⟨⟨i + 1, by omega, by go_num, by first | exact ST.out.is | exact ST.out.is.drew, HBW.out.trans ((HBX.out.mono HBW.out.size).trans (by obtain ⟨_, o, ho⟩ := ST.out; exact ho.below (by have := HI.out; have := B4.out.size; omega) (by have := HBX.out.size; have := HBW.out.size; omega)))⟩, by simp [intOf]; omega⟩
          by_cases h0 : kd = 4
          · subst h0
            go_wp2_with (first
              | (refine wpList_load_mid rfl 45 (.tmp 40) rfl b (off + i * 21) rfl (C i) _ HR.out Try.underlying45 rfl HL45.out ?_)
              | (refine wpList_store_row rfl 45 (.tmp 9) (.tmp 41) rfl wr.heap.size (C i).toArray rfl rfl 45 _ (Blk.new wr z45) H45.out HSZ.out HAL.out ?_)
              | (rw [HX.out]))
            have hrg := Lib.hid (item_range HIT.out HG.out)
            have HPP := Lib.hid (And.intro HIT.out.len HIT.out.bytes)
            have hXI : wr.heap.size ≠ I := by have := HIW.out.lt; omega
            have hin : InIs (wr.alloc (.cells (C i).toArray 45)) I I ((D i).p ++ restU D len0 (i + 1)) 0 := by
              have k := HIX.out
              rw [HREST.out, show enc (D i) = (D i).p by unfold enc; rw [← HKD.out]; rfl] at k
              exact k
            have HIN := Lib.hid hin
            clear hin hk hbd
            generalize (D i).p = p at *
            have HC42 := Lib.hid (cellsL42 HPP.out.1)
            have hgd := eqg51 p p
            have heq := eql51 (p := p) HPP.out.2 HPP.out.1
            generalize wr.alloc (.cells (C i).toArray 45) = W at *
            refine wp_region_held_drew (S := fun w' => Hid (w'.rangeAt wr.heap.size 2 (bv p))) (by kernel_rfl) (hrg.out) (fun hH => ?_)
            refine wpAnyH_take (i := 0) (oi := { dst := some 74, op := Go.Op.move (Go.Operand.tmp 7), type := 36, pos := "law.go:173", after := #[], guard := none }) (v := .pointer (some ⟨I, 0, none⟩)) rfl (by kernel_rfl) (by kernel_rfl) (by kernel_rfl) (fun _ _ _ h => h) (Or.inl ⟨by rfl, fun w hS => by first | rfl | go_simp⟩) hH ?_
            simp only [Act.put, List.setIfInBounds_toArray, List.set_cons_zero, List.set_cons_succ]
            refine wpAnyH_take (i := 2) (oi := { dst := some 76, op := Go.Op.fieldAddr 45 (Go.Operand.tmp 9) 2, type := 0, pos := "law.go:173", after := #[], guard := none }) (v := .pointer (some ⟨wr.heap.size, 2, none⟩)) rfl (by kernel_rfl) (by kernel_rfl) (by kernel_rfl) (fun _ _ _ h => h) (Or.inl ⟨by rfl, fun w hS => by first | rfl | go_simp⟩) hH ?_
            simp only [Act.put, List.setIfInBounds_toArray, List.set_cons_zero, List.set_cons_succ]
            refine wpAnyH_take (i := 3) (oi := { dst := some 77, op := Go.Op.load 42 (Go.Operand.tmp 76), type := 42, pos := "law.go:173", after := #[{ on := 2, ground := Go.Ground.data }], guard := none }) (v := sumV p) rfl (by kernel_rfl) (by kernel_rfl) (by kernel_rfl) (fun _ _ _ h => h) (Or.inl ⟨by rfl, fun w hS => exec_load_mid rfl rfl hS.out Try.underlying42 rfl HC42.out⟩) hH ?_
            simp only [Act.put, List.setIfInBounds_toArray, List.set_cons_zero, List.set_cons_succ]
            refine wpAnyH_ready (rs := [1]) (by kernel_rfl) (by simp) ?_
            refine AllReadyH.cons (o := { dst := some 75, op := Go.Op.call { callee := Go.Callee.value (Go.Operand.func 21), args := #[Go.Operand.tmp 74], argTypes := #[36] }, type := 51, pos := "law.go:173", after := #[{ on := 0, ground := Go.Ground.data }], guard := none }) rfl (fun K hK => ?_) AllReadyH.nil
            go_simp
            refine (sum_back I I _ p _ HIN.out.drew HPP.out.1).mono ?_
            rintro r wn ⟨rfl, hst⟩
            have ST := Lib.hid hst.undrew
            have hrg2 := Lib.hid (ST.out.range hXI hrg.out)
            clear hst hrg
            refine hK.out _ _ (hrg2.out) (fun hHn => ?_)
            clear hK K hH
            have hH := hHn
            clear hHn
            try simp only [Act.put, List.setIfInBounds_toArray, List.set_cons_zero, List.set_cons_succ]
            refine wpAnyH_take (i := 4) (oi := { dst := some 78, op := Go.Op.binOp Go.BinOp.eql 51 (Go.Operand.tmp 75) (Go.Operand.tmp 77) 51, type := 4, pos := "law.go:173", after := #[{ on := 1, ground := Go.Ground.data }, { on := 3, ground := Go.Ground.data }], guard := none }) (v := .bool true) rfl (by kernel_rfl) (by kernel_rfl) (by kernel_rfl) (fun _ _ _ h => h) (Or.inl ⟨by rfl, fun w hS => by clear hS; go_simp⟩) hH ?_
            simp only [Act.put, List.setIfInBounds_toArray, List.set_cons_zero, List.set_cons_succ]
            refine wpAnyH_ready (rs := [5]) (by kernel_rfl) (by simp) ?_
            refine AllReadyH.cons (o := { dst := some 10, op := Go.Op.assign (Go.Operand.tmp 78), type := 4, pos := "law.go:173", after := #[{ on := 4, ground := Go.Ground.data }, { on := 1, ground := Go.Ground.chain }, { on := 0, ground := Go.Ground.phase }, { on := 1, ground := Go.Ground.phase }, { on := 2, ground := Go.Ground.phase }, { on := 3, ground := Go.Ground.phase }, { on := 4, ground := Go.Ground.phase }], guard := none }) rfl (fun K hK => ?_) AllReadyH.nil
            go_simp
            refine hK.out _ _ (hrg2.out) (fun hHn => ?_)
            clear hK K hH
            have hH := hHn
            clear hHn
            try simp only [Act.put, List.setIfInBounds_toArray, List.set_cons_zero, List.set_cons_succ]
            clear hH
            refine wpAnyH_done (by kernel_rfl) ?_ _
            go_wp2_with fail
            refine (err_any I I (restU D len0 (i + 1)) 0 _ (by first | exact ST.out.is | exact ST.out.is.drew)).mono ?_
            rintro r wz ⟨rfl, rfl⟩
            go_wp2_with fail
            exact ⟨⟨i + 1, by omega, by go_num, by first | exact ST.out.is | exact ST.out.is.drew, HBW.out.trans ((HBX.out.mono HBW.out.size).trans (by obtain ⟨_, o, ho⟩ := ST.out; exact ho.below (by have := HI.out; have := B4.out.size; omega) (by have := HBX.out.size; have := HBW.out.size; omega)))⟩, by simp [intOf]; omega⟩
          by_cases h0 : kd = 5
          · subst h0
            go_wp2_with (first
              | (refine wpList_load_mid rfl 45 (.tmp 40) rfl b (off + i * 21) rfl (C i) _ HR.out Try.underlying45 rfl HL45.out ?_)
              | (refine wpList_store_row rfl 45 (.tmp 9) (.tmp 41) rfl wr.heap.size (C i).toArray rfl rfl 45 _ (Blk.new wr z45) H45.out HSZ.out HAL.out ?_)
              | (rw [HX.out]))
            have HSI := Lib.hid HIT.out.s
            have HSB : Hid (Bytes (D i).S) := by obtain ⟨_, _, _, _, _, hb, _⟩ := HIT.out.s; exact hb
            have hs : ∃ a c, (D i).v3 = .slice a (D i).n3 c := by obtain ⟨a, c, h1, _⟩ := HIT.out.s; exact ⟨a, c, h1⟩
            obtain ⟨a3, c3, hv⟩ := hs
            have hnc := HG.out.cell 18
            rw [show (C i).toArray[18]? = _ by simpa using HE3.out.2.2.1, hv] at hnc
            rw [hv] at HSI
            clear hv
            have hXI : wr.heap.size ≠ I := by have := HIW.out.lt; omega
            have hin : InIs (wr.alloc (.cells (C i).toArray 45)) I I (digs (D i).n3 1 ++ ((D i).S ++ restU D len0 (i + 1))) 0 := by
              have k := HIX.out
              rw [HREST.out, show enc (D i) = digs (D i).n3 1 ++ (D i).S by unfold enc; rw [← HKD.out]; rfl, List.append_assoc] at k
              exact k
            have hlim : ((D i).n3 : Int) < 256 ^ 1 := by
              have k : decide ((256 : Int) ^ 1 ≤ ((D i).n3 : Int)) = false := by have k := hbd; unfold bad at k; rw [← HKD.out] at k; exact k
              have k2 := of_decide_eq_false k
              omega
            have HIN := Lib.hid hin
            have HLIM := Lib.hid (And.intro hlim (And.intro HIK.out.2.1 HIK.out.2.2.1))
            have HWW := Lib.hid (HBW.out.trans (HBX.out.mono HBW.out.size))
            have HI0 : Hid (w2.heap.size ≤ I) := by have := HI.out; have := B4.out.size; show _ ≤ _; omega
            clear hin hlim hk hbd
            generalize (D i).n3 = n3 at *
            generalize (D i).S = S at *
            generalize hWe : wr.alloc (.cells (C i).toArray 45) = W at *
            have HIl : Hid (I < W.heap.size) := by rw [← hWe]; have := HIW.out.lt; simp [Hid]; omega
            clear hWe
            go_region_with (first
              | (go_at_call 24; refine (sums_back I I _ S n3 _ HIN.out.drew HLIM.out.2.1 HLIM.out.1).mono ?_; rintro r wn ⟨v5, rfl, hrow5, hst⟩; have ST := Lib.hid hst.undrew; have hnc := ST.out.cell hXI hnc; have HR5 := Lib.hid (HoldsS.ofRow HSB.out (by have := HLIM.out.2; unfold maxLen; omega) HLIM.out.2.1 hrow5); clear hst hrow5)
              | (go_at_call 23; refine (from_any _ n3 S _ HR5.out (by have := HLIM.out.2; omega)).mono ?_; rintro r wm ⟨v7, rfl, hrow7, hb7⟩; have hnc := cell_below hb7 hnc; have ST := Lib.hid (ST.out.more hb7); have HR7 := Lib.hid (HoldsS.ofRow HSB.out (by have := HLIM.out.2; unfold maxLen; omega) HLIM.out.2.1 hrow7); clear hb7 hrow7)
              | (go_at_call 22; refine (sames_any _ _ n3 S _ HR7.out (HSI.out.step HWW.out ST.out HI0.out) (by have := HLIM.out.2; omega)).mono ?_; rintro r wk ⟨rfl, hb8⟩; have ST := Lib.hid (ST.out.more hb8); clear hb8))
            all_goals
              go_wp2_with fail
              refine (err_any I I (restU D len0 (i + 1)) 0 _ (by first | exact ST.out.is | exact ST.out.is.drew)).mono ?_
              rintro r wz ⟨rfl, rfl⟩
              go_wp2_with fail
              exact ⟨⟨i + 1, by omega, by go_num, by first | exact ST.out.is | exact ST.out.is.drew, HBW.out.trans ((HBX.out.mono HBW.out.size).trans (by obtain ⟨_, o, ho⟩ := ST.out; exact ho.below (by have := HI.out; have := B4.out.size; omega) (by have := HBX.out.size; have := HBW.out.size; omega)))⟩, by simp [intOf]; omega⟩
          by_cases h0 : kd = 6
          · subst h0
            go_wp2_with (first
              | (refine wpList_load_mid rfl 45 (.tmp 40) rfl b (off + i * 21) rfl (C i) _ HR.out Try.underlying45 rfl HL45.out ?_)
              | (refine wpList_store_row rfl 45 (.tmp 9) (.tmp 41) rfl wr.heap.size (C i).toArray rfl rfl 45 _ (Blk.new wr z45) H45.out HSZ.out HAL.out ?_)
              | (rw [HX.out]))
            have HBI := Lib.hid HIT.out.b
            have hb4 : ∃ a c, (D i).v4 = .slice a (D i).B.length c := by obtain ⟨a, n, c, h1, h2⟩ := HIT.out.b.slice; exact ⟨a, c, by rw [h1, h2]⟩
            obtain ⟨a4, c4, hv⟩ := hb4
            have hnc := HG.out.cell 19
            rw [show (C i).toArray[19]? = _ by simpa using HE3.out.2.2.2, hv] at hnc
            rw [hv] at HBI
            clear hv
            have hXI : wr.heap.size ≠ I := by have := HIW.out.lt; omega
            have hin : InIs (wr.alloc (.cells (C i).toArray 45)) I I (digs (D i).B.length 2 ++ ((D i).B ++ restU D len0 (i + 1))) 0 := by
              have k := HIX.out
              rw [HREST.out, show enc (D i) = digs (D i).B.length 2 ++ (D i).B by unfold enc; rw [← HKD.out]; rfl, List.append_assoc] at k
              exact k
            have hlim : (D i).B.length ≤ 4096 := by
              have k : decide (4096 < (D i).B.length) = false := by have k := hbd; unfold bad at k; rw [← HKD.out] at k; exact k
              have k2 := of_decide_eq_false k
              omega
            have HIN := Lib.hid hin
            have HLIM := Lib.hid hlim
            have HWW := Lib.hid (HBW.out.trans (HBX.out.mono HBW.out.size))
            have HI0 : Hid (w2.heap.size ≤ I) := by have := HI.out; have := B4.out.size; show _ ≤ _; omega
            clear hin hlim hk hbd
            generalize (D i).B = Bb at *
            generalize wr.alloc (.cells (C i).toArray 45) = W at *
            have tw : (convert 26 9 (.slice a4 Bb.length c4)).run Try.prog W.drew = .ok (.string (strOfNums Bb)) W.drew := (HBI.out.keep HWW.out).drew.text
            have HTT : Hid (∀ w, (∃ M, HoldsB w M (.slice a4 Bb.length c4) Bb) → (convert 26 9 (.slice a4 Bb.length c4)).run Try.prog w = .ok (.string (strOfNums Bb)) w) := fun w h => h.choose_spec.text
            have HUU : Hid (∀ w v, (∃ M, HoldsB w M v Bb) → (convert 26 9 v).run Try.prog w = .ok (.string (strOfNums Bb)) w) := fun w v h => h.choose_spec.text
            generalize strOfNums Bb = sb at *
            go_region_with (go_at_call 25; refine (blob_back I I _ Bb _ HIN.out.drew HLIM.out).mono ?_; rintro r wn ⟨v5, rfl, hrow5, hst⟩; have ST := Lib.hid hst.undrew; have hnc := ST.out.cell hXI hnc; have tn := HTT.out wn ⟨_, HBI.out.step HWW.out ST.out HI0.out⟩; have tm := HUU.out wn v5 ⟨_, HoldsB.ofRow HBI.out.bytes hrow5⟩; clear hst hrow5)
            all_goals
              go_wp2_with fail
              refine (err_any I I (restU D len0 (i + 1)) 0 _ (by first | exact ST.out.is | exact ST.out.is.drew)).mono ?_
              rintro r wz ⟨rfl, rfl⟩
              go_wp2_with fail
              exact ⟨⟨i + 1, by omega, by go_num, by first | exact ST.out.is | exact ST.out.is.drew, HBW.out.trans ((HBX.out.mono HBW.out.size).trans (by obtain ⟨_, o, ho⟩ := ST.out; exact ho.below (by have := HI.out; have := B4.out.size; omega) (by have := HBX.out.size; have := HBW.out.size; omega)))⟩, by simp [intOf]; omega⟩
          have hno : Hid (restU D len0 i = restU D len0 (i + 1)) := by
            have k : enc (D i) = [] := by
              unfold enc
              rw [← HKD.out]
              simp only [*, if_false]
            show _ = _
            rw [HREST.out, k, List.nil_append]
          have HIX2 : Hid (InIs (wr.alloc (.cells (C i).toArray 45)) I I (restU D len0 (i + 1)) 0) := by rw [← hno.out]; exact HIX.out
          go_wp2_with (first
              | (refine wpList_load_mid rfl 45 (.tmp 40) rfl b (off + i * 21) rfl (C i) _ HR.out Try.underlying45 rfl HL45.out ?_)
              | (refine wpList_store_row rfl 45 (.tmp 9) (.tmp 41) rfl wr.heap.size (C i).toArray rfl rfl 45 _ (Blk.new wr z45) H45.out HSZ.out HAL.out ?_)
              | (rw [HX.out]))
          refine (err_any I I (restU D len0 (i + 1)) 0 _ HIX2.out).mono ?_
          rintro r wz ⟨rfl, rfl⟩
          go_wp2_with fail
          exact ⟨⟨i + 1, by omega, by go_num, HIX2.out, HBW.out.trans (HBX.out.mono HBW.out.size)⟩, by simp [intOf]; omega⟩
        · obtain rfl : i = len0 := by omega
          have HEND : Hid (endE (restU D i i) 0 = 0) := by rw [restU_all]; rfl
          go_wp2_with fail
          refine (end_any I I _ 0 _ HIW.out).mono ?_
          rintro r wz ⟨rfl, l', h2⟩
          have hT : Below w2.heap.size w2 wz := by
            obtain ⟨_, o, ho⟩ := h2
            exact HBW.out.trans (ho.below (by have := HI.out; have := B4.out.size; omega) HBW.out.size)
          have HT := Lib.hid hT
          clear h2 hT
          rw [HEND.out]
          go_wp2_with fail
          go_ret
          exact ⟨rfl, B2.out.trans (HT.out.mono B2.out.size)⟩
end Go.Proofs.Ytgpjffchpppceaa
