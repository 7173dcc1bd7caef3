/-
  The document's Mac.
-/
import Derived.Test.YtahmioiefmheeaaDoorTwin
namespace Go.Proofs.YtahmioiefmheeaaDoor
open Go.RowKit

theorem size32 {l : List Int} (h : l.length = 32) : (kv .u8 (fill 32 [])).toArray.size = (kv .u8 l).toArray.size := by rw [kv_size, kv_size, h]; rfl
set_option maxRecDepth 100000 in
theorem slice24_all (b : Nat) (w : World) : (Instr.sliceAt 37 (.pointer (some ⟨b, 0, none⟩)) none none none).run Tryd.prog w = .ok (.slice (some ⟨b, 0, none⟩) 32 32) w := by
  have hl : Tryd.prog.arrayLen 37 = 32 := by kernel_rfl
  have he : Tryd.prog.elem 37 = 5 := by kernel_rfl
  rw [run_sliceAt_array_all (ht := Tryd.underlying37), hl, he, size5]
  rfl
set_option maxRecDepth 100000 in
set_option maxHeartbeats 2000000 in
theorem rmac_any (M N : Nat) (v u : Value) (k p : List Int) (w : World) (hp : HoldsB w M v k) (hq : HoldsB w N u p) (hlen : k.length ≤ 140737488351232) (hlen2 : p.length ≤ 140737488351300) :
    Calls Tryd.prog 116 #[v, u] w fun r w' => r = .returned (.agg (kv .u8 (macL k p)).toArray) ∧ Below w.heap.size w w' := by
  obtain ⟨a0, n, cap, rfl, hn⟩ := hp.slice
  have HP := Kp.mk hp
  have HQ := Kp.mk hq
  have HL := Kp.mk hlen
  have HL2 := Kp.mk hlen2
  have HN := Kp.mk hn
  have HKL := Kp.mk (keyb_len k)
  have hnm : n ≤ 140737488351232 := by omega
  obtain ⟨A, hA⟩ : ∃ A, A = w.heap.size := ⟨_, rfl⟩
  have HA := Kp.mk hA
  clear hp hq hlen hlen2
  by_cases hbig : 64 < n
  · have HBIG : Kp (keyb k = fill 64 (digest k)) := ⟨keyb_big (by omega)⟩
    have HDL := Kp.mk (digest_len k)
    have HCD := Kp.mk (cells24 (digest_len k))
    have HZD := Kp.mk (size32 (digest_len k))
    clear hn
    go_enter Tryd.func116, Tryd.ntmps116
    go_wp2_with fail
    rw [← hA]
    refine calls_world (fun W => Row W A 37 .u8 (fill 32 []) ∧ Row W (A + 1) 145 .u8 (fill 64 []) ∧ Below A w W) ⟨Row.alloc (Blk.newAt (w := w) z24 hA) _, Blk.newAt (w := w.alloc z24) z75 (by rw [hA]; simp), by rw [hA]; exact more (more (Below.refl _ _) z24) z75⟩ ?_
    rintro w1 ⟨hr, hr1, hb⟩
    have HR := Kp.mk hr
    have HR1 := Kp.mk hr1
    have HB := Kp.mk hb
    clear hr hr1 hb hA
    refine (rsum_any M _ k w1 (HP.out.keep (by rw [← HA.out]; exact HB.out)) (by have := HL.out; omega)).mono ?_
    rintro r w2 ⟨rfl, h2⟩
    have HR2 := Kp.mk (HR.out.keep h2)
    have HR3 := Kp.mk (HR1.out.keep h2)
    have HB2 : Kp (Below A w w2) := ⟨HB.out.trans (h2.mono (Nat.le_of_lt HR.out.lt))⟩
    clear h2
    generalize digest k = d at *
    obtain ⟨D, hD⟩ : ∃ D, D = w2.heap.size := ⟨_, rfl⟩
    have HADl : Kp (A + 1 < D) := ⟨by rw [hD]; exact HR3.out.lt⟩
    go_wp2_with (refine wpList_store_row rfl 37 (.tmp 6) (.tmp 17) rfl w2.heap.size (kv .u8 d).toArray rfl rfl 37 _ (Blk.new w2 z24) HCD.out HZD.out (kv_all _ _) ?_)
    rw [← hD]
    refine wp_world (fun W => Row W D 37 .u8 d ∧ Row W (A + 1) 145 .u8 (fill 64 (d.take 0)) ∧ Row W A 37 .u8 (fill 32 []) ∧ Below A w W) ⟨Row.setRow (k := .u8) (l := fill 32 []) (Blk.newAt z24 hD) _, Row.otherRow (HR3.out.alloc z24) (by have := HADl.out; omega) _, Row.otherRow (HR2.out.alloc z24) (by have := HADl.out; omega) _, Below.row (HB2.out.alloc (Nat.le_of_lt HR2.out.lt) z24) (by have := HADl.out; omega) _⟩ ?_
    rintro w3 ⟨h1, h2, h3, h4⟩
    have J1 := Kp.mk h1
    have J2 := Kp.mk h2
    have J3 := Kp.mk h3
    have J4 := Kp.mk h4
    clear h1 h2 h3 h4 hD
    go_loopw [7] (fun c wr => ∃ i : Nat, i ≤ 32 ∧ c = .int .i64 i ∧ Row wr D 37 .u8 d ∧ Row wr (A + 1) 145 .u8 (fill 64 (d.take i)) ∧ Row wr A 37 .u8 (fill 32 []) ∧ Below A w wr) (fun c _ => 32 - (intOf c).toNat)
    case atStart => exact ⟨0, by omega, rfl, J1.out, J2.out, J3.out, J4.out⟩
    case round =>
      obtain ⟨i, hi, rfl, h1, h2, h3, h4⟩ := hrel
      have G1 := Kp.mk h1
      have G2 := Kp.mk h2
      have G3 := Kp.mk h3
      have G4 := Kp.mk h4
      clear h1 h2 h3 h4 J1 J2 J3 J4
      by_cases hlt : i < 32
      · have c1 := G1.out.cell (i := i) (by rw [HDL.out]; exact hlt)
        have c2 := G2.out.cell (i := i) (by rw [fill_len (by rw [List.length_take]; omega)]; omega)
        have f2 := G2.out.frozen i
        have HS := Kp.mk (fill_take (n := 64) (l := d) (i := i) (by rw [HDL.out]; omega) (by omega))
        generalize d.getD i 0 = x at *
        go_wp2_with fail
        exact ⟨⟨i + 1, by omega, by go_num, G1.out.other (by show A + 1 ≠ D; have := HADl.out; omega) _, (G2.out.set i _).as HS.out, G3.out.other (by show A + 1 ≠ A; omega) _, G4.out.setCell (by show A ≤ A + 1; omega) _⟩, by simp [intOf]; omega⟩
      · have HI : Kp (i = 32) := ⟨by omega⟩
        have hge : 32 ≤ (i : Int) := by omega
        have L2 : Kp (Row wr (A + 1) 145 .u8 (keyb k)) := ⟨by
          have h := G2.out
          rw [HI.out, List.take_of_length_le (by rw [HDL.out]; exact Nat.le_refl _)] at h
          rw [HBIG.out]
          exact h⟩
        have L1 := G3
        have L3 := G4
        clear hlt hi G1 G2
        go_wp2_with fail
        go_loopw [9, 10, 11] (fun s9 s10 c wr => ∃ (j : Nat) (a9 a10 : Option Addr) (c9 c10 : Nat), j ≤ 64 ∧ s9 = .slice a9 j c9 ∧ s10 = .slice a10 j c10 ∧ c = .int .i64 j ∧ Kp (Twin wr (A + 2) (.slice a9 j c9) (.slice a10 j c10) j j (over ((keyb k).take j) 54) (over ((keyb k).take j) 92)) ∧ Row wr (A + 1) 145 .u8 (keyb k) ∧ Row wr A 37 .u8 (fill 32 []) ∧ Below A w wr) (fun _ _ c _ => 64 - (intOf c).toNat)
        case atStart => exact ⟨0, none, none, 0, 0, by omega, rfl, rfl, rfl, ⟨⟨World.ownsRow_nil _ _ _ _, World.ownsRow_nil _ _ _ _, fun g h => by simp [Value.ownBlock] at h⟩⟩, L2.out, L1.out, L3.out⟩
        case round =>
          obtain ⟨j, a9, a10, c9, c10, hj, rfl, rfl, rfl, HT, h1, h2, h3⟩ := hrel
          have G1 := Kp.mk h1
          have G2 := Kp.mk h2
          have G3 := Kp.mk h3
          clear h1 h2 h3 L1 L2 L3
          by_cases hlt : j < 64
          · have c1 := G1.out.cell (i := j) (by rw [keyb_len]; exact hlt)
            have HO1 := Kp.mk (over_succ (l := keyb k) (j := j) (by rw [keyb_len]; exact hlt) 54)
            have HO2 := Kp.mk (over_succ (l := keyb k) (j := j) (by rw [keyb_len]; exact hlt) 92)
            obtain ⟨y, hy⟩ : ∃ y, (keyb k).getD j 0 = y := ⟨_, rfl⟩
            rw [hy] at c1 HO1 HO2
            go_wp2_with (at_builtin; refine wpList_append_holds2 rfl _ _ rfl (A + 2) _ _ _ rfl (HT.out.one.alloc _) _ _ [bits .xor .u8 y 54] rfl (one_holds wr _ (bits_u8r _ _ _)) ?e0 ?e1 ?_)
            case e0 => simp; omega
            case e1 => have := G1.out.lt; simp; omega
            intro v1 w1 ho hg hw
            have HT1 := Kp.mk ((HT.out.alloc _).step (p := [bits .xor .u8 y 54]) ho hg (fun g e => by rw [World.size_alloc]; exact hw g e))
            have hbel : Below (A + 2) wr w1 := below_row_grown ((Below.refl _ _).alloc (by have := G1.out.lt; omega) _) (by have := G1.out.lt; simp; omega) (HT.out.one.alloc _) hg
            obtain ⟨b9, d9, rfl⟩ := row_slice HT1.out.one
            have F1 := Kp.mk (G1.out.upto hbel (by omega))
            have F2 := Kp.mk (G2.out.upto hbel (by omega))
            have F3 : Kp (Below A w w1) := ⟨G3.out.trans (hbel.mono (by omega))⟩
            have c2 := F1.out.cell (i := j) (by rw [keyb_len]; exact hlt)
            have HY : Kp ((keyb k).getD j 0 = y) := ⟨hy⟩
            rw [HY.out] at c2
            rw [← HO1.out] at HT1
            simp only [List.length_cons, List.length_nil, Nat.zero_add] at HT1
            clear ho hg hw hbel c1 HT G1 G2 G3 hy
            go_wp2_with (at_builtin; refine wpList_append_holds2 rfl _ _ rfl (A + 2) _ _ _ rfl (HT1.out.two.alloc _) _ _ [bits .xor .u8 y 92] rfl (one_holds w1 _ (bits_u8r _ _ _)) ?g0 ?g1 ?_)
            case g0 => simp; omega
            case g1 => have := F1.out.lt; simp; omega
            intro v2 w4 ho hg hw
            have HT2 := Kp.mk ((HT1.out.swap.alloc _).step (p := [bits .xor .u8 y 92]) ho hg (fun g e => by rw [World.size_alloc]; exact hw g e))
            have hbel : Below (A + 2) w1 w4 := below_row_grown ((Below.refl _ _).alloc (by have := F1.out.lt; omega) _) (by have := F1.out.lt; simp; omega) (HT1.out.two.alloc _) hg
            obtain ⟨b10, d10, rfl⟩ := row_slice HT2.out.one
            have K1 := Kp.mk (F1.out.upto hbel (by omega))
            have K2 := Kp.mk (F2.out.upto hbel (by omega))
            have K3 : Kp (Below A w w4) := ⟨F3.out.trans (hbel.mono (by omega))⟩
            rw [← HO2.out] at HT2
            simp only [List.length_cons, List.length_nil, Nat.zero_add] at HT2
            clear ho hg hw hbel c2 HT1 F1 F2 F3
            go_wp2_with fail
            exact ⟨⟨j + 1, b9, b10, d9, d10, by omega, rfl, rfl, by go_num, ⟨HT2.out.swap⟩, K1.out, K2.out, K3.out⟩, by simp [intOf]; omega⟩
          · obtain rfl : j = 64 := by omega
            have HT4 : Kp (Twin wr (A + 2) (.slice a9 64 c9) (.slice a10 64 c10) 64 64 (over (keyb k) 54) (over (keyb k) 92)) := by
              have h := HT.out
              rw [List.take_of_length_le (by rw [keyb_len]; exact Nat.le_refl _)] at h
              exact ⟨h⟩
            have HE : Kp (macL k p = digest (over (keyb k) 92 ++ digest (over (keyb k) 54 ++ p))) := ⟨rfl⟩
            have HOL : Kp (∀ x, (over (keyb k) x).length = 64) := ⟨fun x => by rw [over_len, keyb_len]⟩
            have HOB : Kp (∀ x, Bytes (over (keyb k) x)) := ⟨fun x => over_bytes _ x⟩
            have HQr : Kp (HoldsB wr N u p) := ⟨HQ.out.keep (by rw [← HA.out]; exact G3.out)⟩
            have HLe := Kp.mk G1.out.lt
            clear HT hj hlt
            obtain ⟨R, hR⟩ : ∃ R, R = macL k p := ⟨_, rfl⟩
            rw [← hR] at HE
            have HRR := Kp.mk hR
            clear hR
            generalize keyb k = B at *
            go_wp2_with (at_builtin; refine wpList_append_holds2 rfl _ _ rfl (A + 2) _ _ _ rfl HT4.out.one _ _ p rfl HQr.out ?k0 ?k1 ?_)
            case k0 => have := HL2.out; omega
            case k1 => have := HLe.out; omega
            intro v3 w5 ho hg hw
            have HT5 := Kp.mk (HT4.out.step (p := p) ho hg hw)
            have hbel : Below (A + 2) wr w5 := below_row_grown (Below.refl _ _) (by have := HLe.out; omega) HT4.out.one hg
            have K2 := Kp.mk (G2.out.upto hbel (by omega))
            have K3 : Kp (Below A w w5) := ⟨G3.out.trans (hbel.mono (by omega))⟩
            have HV3 : Kp (HoldsB w5 w5.heap.size v3 (over B 54 ++ p)) := ⟨HoldsB.ofRow ((HOB.out 54).append HQr.out.bytes) (by rw [List.length_append, HOL.out]; exact HT5.out.one)⟩
            have HS5 : Kp (A + 1 < w5.heap.size) := ⟨by have := HLe.out; have := hbel.size; omega⟩
            clear ho hg hw hbel HT4 G1 G2 G3
            go_wp2_with fail
            refine (rsum_any _ v3 (over B 54 ++ p) w5 HV3.out (by rw [List.length_append, HOL.out]; have := HL2.out; omega)).mono ?_
            rintro r w6 ⟨rfl, h6⟩
            have P2 := Kp.mk (K2.out.keep h6)
            have P3 : Kp (Below A w w6) := ⟨K3.out.trans (h6.mono (Nat.le_of_lt K2.out.lt))⟩
            have P4 := Kp.mk (ownsRow_below HT5.out.two h6)
            have HS6 : Kp (A + 1 < w6.heap.size) := ⟨by have := HS5.out; have := h6.size; omega⟩
            have HIL := Kp.mk (digest_len (over B 54 ++ p))
            have HIB := Kp.mk (digest_bytes (over B 54 ++ p))
            clear h6 K2 K3 HV3 HT5
            generalize digest (over B 54 ++ p) = I at *
            have HCI := Kp.mk (cells24 HIL.out)
            have HZI := Kp.mk (size32 HIL.out)
            obtain ⟨E, hEe⟩ : ∃ E, E = w6.heap.size := ⟨_, rfl⟩
            obtain ⟨W, hW⟩ : ∃ W, W = (w6.alloc z24).setRow E (kv .u8 I).toArray := ⟨_, rfl⟩
            have S1 : Kp (Row W E 37 .u8 I) := ⟨by rw [hW]; exact Row.setRow (k := .u8) (l := fill 32 []) (Blk.newAt z24 hEe) _⟩
            have S2 : Kp (Row W A 37 .u8 (fill 32 [])) := ⟨by rw [hW]; exact Row.otherRow (P2.out.alloc z24) (by have := P2.out.lt; omega) _⟩
            have S3 : Kp (Below A w W) := ⟨by rw [hW]; exact Below.row (P3.out.alloc (Nat.le_of_lt P2.out.lt) z24) (by have := P2.out.lt; omega) _⟩
            have S4 : Kp (W.ownsRow (A + 2) 5 1 (.slice a10 64 c10) 64 (bv (over B 92))) := ⟨by
              rw [hW]
              refine (P4.out.alloc z24).kept (row := some E) (Turn.grown (Turn.row (Turn.same (Blk.newAt z24 hEe)) _)) (Or.inr fun e => ?_)
              have := (P4.out.lt E e).2
              omega⟩
            have HH : Kp (HoldsB W W.heap.size (.slice (some ⟨E, 0, none⟩) 32 32) I) := ⟨by
              have h := HoldsB.ofBytes S1.out HIB.out (by rw [HIL.out]; decide)
              rw [HIL.out] at h
              exact h⟩
            have HSz : Kp (A + 2 ≤ W.heap.size) := ⟨by have := HS6.out; rw [hW]; simp [World.setRow]; omega⟩
            have hs := slice24_all
            subst hEe
            go_wp2_with (first
              | (refine wpList_store_row rfl 37 (.tmp 12) (.tmp 60) rfl w6.heap.size (kv .u8 I).toArray rfl rfl 37 _ (Blk.new w6 z24) HCI.out HZI.out (kv_all _ _) ?_; refine wpl_world (· = W) hW.symm ?_; clear hW; intro W0 e; rw [e]; clear e)
              | (at_builtin; refine wpList_append_holds2 rfl _ _ rfl (A + 2) _ _ _ rfl S4.out _ _ I rfl HH.out ?m0 ?m1 ?_))
            case m0 => rw [HIL.out]; omega
            case m1 => exact HSz.out
            intro v4 w7 ho hg hw
            have ho2 : w7.ownsRow (A + 2) 5 1 v4 (over B 92 ++ I).length (bv (over B 92 ++ I)) := by
              rw [List.length_append, HOL.out, show bv (over B 92 ++ I) = bv (over B 92) ++ bv I by simp]
              exact ho
            have hbel : Below (A + 2) W w7 := below_row_grown (Below.refl _ _) HSz.out S4.out hg
            have T2 := Kp.mk (S2.out.upto hbel (by omega))
            have T3 : Kp (Below A w w7) := ⟨S3.out.trans (hbel.mono (by omega))⟩
            have HV4 : Kp (HoldsB w7 w7.heap.size v4 (over B 92 ++ I)) := ⟨HoldsB.ofRow ((HOB.out 92).append HIB.out) ho2⟩
            clear ho hg hw hbel ho2 hs
            go_wp2_with fail
            refine (rsum_any _ v4 (over B 92 ++ I) w7 HV4.out (by rw [List.length_append, HOL.out, HIL.out]; omega)).mono ?_
            rintro r w8 ⟨rfl, h8⟩
            have U2 := Kp.mk (T2.out.keep h8)
            have U3 : Kp (Below A w w8) := ⟨T3.out.trans (h8.mono (Nat.le_of_lt T2.out.lt))⟩
            rw [← HE.out]
            have HRL : Kp (R.length = 32) := ⟨by rw [HE.out]; exact digest_len _⟩
            have HCR := Kp.mk (cells24 HRL.out)
            have HZR := Kp.mk (size32 HRL.out)
            have HF := Kp.mk (U2.out.setRow R)
            have HBf := Kp.mk (Below.row U3.out (g := A) (Nat.le_refl _) (kv .u8 R).toArray)
            clear h8
            go_wp2_with (refine wpList_store_row rfl 37 (.tmp 4) (.tmp 64) rfl A (kv .u8 R).toArray rfl rfl 37 _ U2.out HCR.out HZR.out (kv_all _ _) ?_)
            refine bodyPost_ret (v := .agg (kv .u8 R).toArray) ?_ rfl ⟨by rw [HRR.out], by rw [← HA.out]; exact HBf.out⟩
            exact results_cell_row rfl _ _ A 37 _ (0, 0) _ rfl HF.out Tryd.underlying37 rfl HCR.out
  · have HSM : Kp (keyb k = fill 64 k) := ⟨keyb_small (by omega)⟩
    have hle : n ≤ 64 := by omega
    clear hn hbig
    go_enter Tryd.func116, Tryd.ntmps116
    go_wp2_with fail
    rw [← hA]
    refine wp_world (fun W => Row W A 37 .u8 (fill 32 []) ∧ Row W (A + 1) 145 .u8 (fill 64 (k.take 0)) ∧ Below A w W) ⟨Row.alloc (Blk.newAt (w := w) z24 hA) _, Blk.newAt (w := w.alloc z24) z75 (by rw [hA]; simp), by rw [hA]; exact more (more (Below.refl _ _) z24) z75⟩ ?_
    rintro w1 ⟨hr, hr1, hb⟩
    have J1 := Kp.mk hr
    have J2 := Kp.mk hr1
    have J3 := Kp.mk hb
    clear hr hr1 hb hA
    go_loopw [8] (fun c wr => ∃ i : Nat, i ≤ n ∧ c = .int .i64 i ∧ Row wr (A + 1) 145 .u8 (fill 64 (k.take i)) ∧ Row wr A 37 .u8 (fill 32 []) ∧ Below A w wr) (fun c _ => n - (intOf c).toNat)
    case atStart => exact ⟨0, by omega, rfl, J2.out, J1.out, J3.out⟩
    case round =>
      obtain ⟨i, hi, rfl, h2, h3, h4⟩ := hrel
      have G2 := Kp.mk h2
      have G3 := Kp.mk h3
      have G4 := Kp.mk h4
      clear h2 h3 h4 J1 J2 J3
      have hki : n = k.length := HN.out
      by_cases hlt : i < n
      · obtain ⟨b0, off, rfl, -, c1⟩ := (HP.out.keep (by rw [← HA.out]; exact G4.out)).cellAt (i := i) (by omega)
        have c2 := G2.out.cell (i := i) (by rw [fill_len (by rw [List.length_take]; omega)]; omega)
        have f2 := G2.out.frozen i
        have HS := Kp.mk (fill_take (n := 64) (l := k) (i := i) (by omega) (by omega))
        generalize k.getD i 0 = x at *
        clear hki
        go_wp2_with fail
        exact ⟨⟨i + 1, by omega, by go_num, (G2.out.set i _).as HS.out, G3.out.other (by show A + 1 ≠ A; omega) _, G4.out.setCell (by show A ≤ A + 1; omega) _⟩, by simp [intOf]; omega⟩
      · have HI : Kp (i = n) := ⟨by omega⟩
        have hge : (n : Int) ≤ (i : Int) := by omega
        have hge2 : ¬ i < n := by omega
        have hge3 : n ≤ i := by omega
        have L2 : Kp (Row wr (A + 1) 145 .u8 (keyb k)) := ⟨by
          have h := G2.out
          rw [HI.out, List.take_of_length_le (by omega)] at h
          rw [HSM.out]
          exact h⟩
        have L1 := G3
        have L3 := G4
        clear hlt hi G2 hki
        go_wp2_with fail
        go_loopw [9, 10, 11] (fun s9 s10 c wr => ∃ (j : Nat) (a9 a10 : Option Addr) (c9 c10 : Nat), j ≤ 64 ∧ s9 = .slice a9 j c9 ∧ s10 = .slice a10 j c10 ∧ c = .int .i64 j ∧ Kp (Twin wr (A + 2) (.slice a9 j c9) (.slice a10 j c10) j j (over ((keyb k).take j) 54) (over ((keyb k).take j) 92)) ∧ Row wr (A + 1) 145 .u8 (keyb k) ∧ Row wr A 37 .u8 (fill 32 []) ∧ Below A w wr) (fun _ _ c _ => 64 - (intOf c).toNat)
        case atStart => exact ⟨0, none, none, 0, 0, by omega, rfl, rfl, rfl, ⟨⟨World.ownsRow_nil _ _ _ _, World.ownsRow_nil _ _ _ _, fun g h => by simp [Value.ownBlock] at h⟩⟩, L2.out, L1.out, L3.out⟩
        case round =>
          obtain ⟨j, a9, a10, c9, c10, hj, rfl, rfl, rfl, HT, h1, h2, h3⟩ := hrel
          have G1 := Kp.mk h1
          have G2 := Kp.mk h2
          have G3 := Kp.mk h3
          clear h1 h2 h3 L1 L2 L3
          by_cases hlt : j < 64
          · have c1 := G1.out.cell (i := j) (by rw [keyb_len]; exact hlt)
            have HO1 := Kp.mk (over_succ (l := keyb k) (j := j) (by rw [keyb_len]; exact hlt) 54)
            have HO2 := Kp.mk (over_succ (l := keyb k) (j := j) (by rw [keyb_len]; exact hlt) 92)
            obtain ⟨y, hy⟩ : ∃ y, (keyb k).getD j 0 = y := ⟨_, rfl⟩
            rw [hy] at c1 HO1 HO2
            go_wp2_with (at_builtin; refine wpList_append_holds2 rfl _ _ rfl (A + 2) _ _ _ rfl (HT.out.one.alloc _) _ _ [bits .xor .u8 y 54] rfl (one_holds wr _ (bits_u8r _ _ _)) ?e0 ?e1 ?_)
            case e0 => simp; omega
            case e1 => have := G1.out.lt; simp; omega
            intro v1 w1 ho hg hw
            have HT1 := Kp.mk ((HT.out.alloc _).step (p := [bits .xor .u8 y 54]) ho hg (fun g e => by rw [World.size_alloc]; exact hw g e))
            have hbel : Below (A + 2) wr w1 := below_row_grown ((Below.refl _ _).alloc (by have := G1.out.lt; omega) _) (by have := G1.out.lt; simp; omega) (HT.out.one.alloc _) hg
            obtain ⟨b9, d9, rfl⟩ := row_slice HT1.out.one
            have F1 := Kp.mk (G1.out.upto hbel (by omega))
            have F2 := Kp.mk (G2.out.upto hbel (by omega))
            have F3 : Kp (Below A w w1) := ⟨G3.out.trans (hbel.mono (by omega))⟩
            have c2 := F1.out.cell (i := j) (by rw [keyb_len]; exact hlt)
            have HY : Kp ((keyb k).getD j 0 = y) := ⟨hy⟩
            rw [HY.out] at c2
            rw [← HO1.out] at HT1
            simp only [List.length_cons, List.length_nil, Nat.zero_add] at HT1
            clear ho hg hw hbel c1 HT G1 G2 G3 hy
            go_wp2_with (at_builtin; refine wpList_append_holds2 rfl _ _ rfl (A + 2) _ _ _ rfl (HT1.out.two.alloc _) _ _ [bits .xor .u8 y 92] rfl (one_holds w1 _ (bits_u8r _ _ _)) ?g0 ?g1 ?_)
            case g0 => simp; omega
            case g1 => have := F1.out.lt; simp; omega
            intro v2 w4 ho hg hw
            have HT2 := Kp.mk ((HT1.out.swap.alloc _).step (p := [bits .xor .u8 y 92]) ho hg (fun g e => by rw [World.size_alloc]; exact hw g e))
            have hbel : Below (A + 2) w1 w4 := below_row_grown ((Below.refl _ _).alloc (by have := F1.out.lt; omega) _) (by have := F1.out.lt; simp; omega) (HT1.out.two.alloc _) hg
            obtain ⟨b10, d10, rfl⟩ := row_slice HT2.out.one
            have K1 := Kp.mk (F1.out.upto hbel (by omega))
            have K2 := Kp.mk (F2.out.upto hbel (by omega))
            have K3 : Kp (Below A w w4) := ⟨F3.out.trans (hbel.mono (by omega))⟩
            rw [← HO2.out] at HT2
            simp only [List.length_cons, List.length_nil, Nat.zero_add] at HT2
            clear ho hg hw hbel c2 HT1 F1 F2 F3
            go_wp2_with fail
            exact ⟨⟨j + 1, b9, b10, d9, d10, by omega, rfl, rfl, by go_num, ⟨HT2.out.swap⟩, K1.out, K2.out, K3.out⟩, by simp [intOf]; omega⟩
          · obtain rfl : j = 64 := by omega
            have HT4 : Kp (Twin wr (A + 2) (.slice a9 64 c9) (.slice a10 64 c10) 64 64 (over (keyb k) 54) (over (keyb k) 92)) := by
              have h := HT.out
              rw [List.take_of_length_le (by rw [keyb_len]; exact Nat.le_refl _)] at h
              exact ⟨h⟩
            have HE : Kp (macL k p = digest (over (keyb k) 92 ++ digest (over (keyb k) 54 ++ p))) := ⟨rfl⟩
            have HOL : Kp (∀ x, (over (keyb k) x).length = 64) := ⟨fun x => by rw [over_len, keyb_len]⟩
            have HOB : Kp (∀ x, Bytes (over (keyb k) x)) := ⟨fun x => over_bytes _ x⟩
            have HQr : Kp (HoldsB wr N u p) := ⟨HQ.out.keep (by rw [← HA.out]; exact G3.out)⟩
            have HLe := Kp.mk G1.out.lt
            clear HT hj hlt
            obtain ⟨R, hR⟩ : ∃ R, R = macL k p := ⟨_, rfl⟩
            rw [← hR] at HE
            have HRR := Kp.mk hR
            clear hR
            generalize keyb k = B at *
            go_wp2_with (at_builtin; refine wpList_append_holds2 rfl _ _ rfl (A + 2) _ _ _ rfl HT4.out.one _ _ p rfl HQr.out ?k0 ?k1 ?_)
            case k0 => have := HL2.out; omega
            case k1 => have := HLe.out; omega
            intro v3 w5 ho hg hw
            have HT5 := Kp.mk (HT4.out.step (p := p) ho hg hw)
            have hbel : Below (A + 2) wr w5 := below_row_grown (Below.refl _ _) (by have := HLe.out; omega) HT4.out.one hg
            have K2 := Kp.mk (G2.out.upto hbel (by omega))
            have K3 : Kp (Below A w w5) := ⟨G3.out.trans (hbel.mono (by omega))⟩
            have HV3 : Kp (HoldsB w5 w5.heap.size v3 (over B 54 ++ p)) := ⟨HoldsB.ofRow ((HOB.out 54).append HQr.out.bytes) (by rw [List.length_append, HOL.out]; exact HT5.out.one)⟩
            have HS5 : Kp (A + 1 < w5.heap.size) := ⟨by have := HLe.out; have := hbel.size; omega⟩
            clear ho hg hw hbel HT4 G1 G2 G3
            go_wp2_with fail
            refine (rsum_any _ v3 (over B 54 ++ p) w5 HV3.out (by rw [List.length_append, HOL.out]; have := HL2.out; omega)).mono ?_
            rintro r w6 ⟨rfl, h6⟩
            have P2 := Kp.mk (K2.out.keep h6)
            have P3 : Kp (Below A w w6) := ⟨K3.out.trans (h6.mono (Nat.le_of_lt K2.out.lt))⟩
            have P4 := Kp.mk (ownsRow_below HT5.out.two h6)
            have HS6 : Kp (A + 1 < w6.heap.size) := ⟨by have := HS5.out; have := h6.size; omega⟩
            have HIL := Kp.mk (digest_len (over B 54 ++ p))
            have HIB := Kp.mk (digest_bytes (over B 54 ++ p))
            clear h6 K2 K3 HV3 HT5
            generalize digest (over B 54 ++ p) = I at *
            have HCI := Kp.mk (cells24 HIL.out)
            have HZI := Kp.mk (size32 HIL.out)
            obtain ⟨E, hEe⟩ : ∃ E, E = w6.heap.size := ⟨_, rfl⟩
            obtain ⟨W, hW⟩ : ∃ W, W = (w6.alloc z24).setRow E (kv .u8 I).toArray := ⟨_, rfl⟩
            have S1 : Kp (Row W E 37 .u8 I) := ⟨by rw [hW]; exact Row.setRow (k := .u8) (l := fill 32 []) (Blk.newAt z24 hEe) _⟩
            have S2 : Kp (Row W A 37 .u8 (fill 32 [])) := ⟨by rw [hW]; exact Row.otherRow (P2.out.alloc z24) (by have := P2.out.lt; omega) _⟩
            have S3 : Kp (Below A w W) := ⟨by rw [hW]; exact Below.row (P3.out.alloc (Nat.le_of_lt P2.out.lt) z24) (by have := P2.out.lt; omega) _⟩
            have S4 : Kp (W.ownsRow (A + 2) 5 1 (.slice a10 64 c10) 64 (bv (over B 92))) := ⟨by
              rw [hW]
              refine (P4.out.alloc z24).kept (row := some E) (Turn.grown (Turn.row (Turn.same (Blk.newAt z24 hEe)) _)) (Or.inr fun e => ?_)
              have := (P4.out.lt E e).2
              omega⟩
            have HH : Kp (HoldsB W W.heap.size (.slice (some ⟨E, 0, none⟩) 32 32) I) := ⟨by
              have h := HoldsB.ofBytes S1.out HIB.out (by rw [HIL.out]; decide)
              rw [HIL.out] at h
              exact h⟩
            have HSz : Kp (A + 2 ≤ W.heap.size) := ⟨by have := HS6.out; rw [hW]; simp [World.setRow]; omega⟩
            have hs := slice24_all
            subst hEe
            go_wp2_with (first
              | (refine wpList_store_row rfl 37 (.tmp 12) (.tmp 60) rfl w6.heap.size (kv .u8 I).toArray rfl rfl 37 _ (Blk.new w6 z24) HCI.out HZI.out (kv_all _ _) ?_; refine wpl_world (· = W) hW.symm ?_; clear hW; intro W0 e; rw [e]; clear e)
              | (at_builtin; refine wpList_append_holds2 rfl _ _ rfl (A + 2) _ _ _ rfl S4.out _ _ I rfl HH.out ?m0 ?m1 ?_))
            case m0 => rw [HIL.out]; omega
            case m1 => exact HSz.out
            intro v4 w7 ho hg hw
            have ho2 : w7.ownsRow (A + 2) 5 1 v4 (over B 92 ++ I).length (bv (over B 92 ++ I)) := by
              rw [List.length_append, HOL.out, show bv (over B 92 ++ I) = bv (over B 92) ++ bv I by simp]
              exact ho
            have hbel : Below (A + 2) W w7 := below_row_grown (Below.refl _ _) HSz.out S4.out hg
            have T2 := Kp.mk (S2.out.upto hbel (by omega))
            have T3 : Kp (Below A w w7) := ⟨S3.out.trans (hbel.mono (by omega))⟩
            have HV4 : Kp (HoldsB w7 w7.heap.size v4 (over B 92 ++ I)) := ⟨HoldsB.ofRow ((HOB.out 92).append HIB.out) ho2⟩
            clear ho hg hw hbel ho2 hs
            go_wp2_with fail
            refine (rsum_any _ v4 (over B 92 ++ I) w7 HV4.out (by rw [List.length_append, HOL.out, HIL.out]; omega)).mono ?_
            rintro r w8 ⟨rfl, h8⟩
            have U2 := Kp.mk (T2.out.keep h8)
            have U3 : Kp (Below A w w8) := ⟨T3.out.trans (h8.mono (Nat.le_of_lt T2.out.lt))⟩
            rw [← HE.out]
            have HRL : Kp (R.length = 32) := ⟨by rw [HE.out]; exact digest_len _⟩
            have HCR := Kp.mk (cells24 HRL.out)
            have HZR := Kp.mk (size32 HRL.out)
            have HF := Kp.mk (U2.out.setRow R)
            have HBf := Kp.mk (Below.row U3.out (g := A) (Nat.le_refl _) (kv .u8 R).toArray)
            clear h8
            go_wp2_with (refine wpList_store_row rfl 37 (.tmp 4) (.tmp 64) rfl A (kv .u8 R).toArray rfl rfl 37 _ U2.out HCR.out HZR.out (kv_all _ _) ?_)
            refine bodyPost_ret (v := .agg (kv .u8 R).toArray) ?_ rfl ⟨by rw [HRR.out], by rw [← HA.out]; exact HBf.out⟩
            exact results_cell_row rfl _ _ A 37 _ (0, 0) _ rfl HF.out Tryd.underlying37 rfl HCR.out
end Go.Proofs.YtahmioiefmheeaaDoor
