/-
  The document's Mac.
  The document's Tag; the law MacTags, walked.
  Arguments that came in: an array of bytes by value; a slice of numbers of 64 bits.
  mac.Prf.
  The document's Prf.
-/
import Derived.Test.YtpljjmdkagbjpaaDoorOd09
import Derived.OpenShut
import Derived.SizedLaws
namespace Go.Proofs.YtpljjmdkagbjpaaDoor
open Go.RowKit

theorem size32 {l : List Int} (h : l.length = 32) : (kv .u8 (fill 32 [])).toArray.size = (kv .u8 l).toArray.size := by rw [kv_size, kv_size, h]; rfl
set_option maxRecDepth 100000 in
theorem slice24_all (b : Nat) (w : World) : (Instr.sliceAt 35 (.pointer (some ⟨b, 0, none⟩)) none none none).run Tryd.prog w = .ok (.slice (some ⟨b, 0, none⟩) 32 32) w := by
  have hl : Tryd.prog.arrayLen 35 = 32 := by kernel_rfl
  have he : Tryd.prog.elem 35 = 5 := by kernel_rfl
  rw [run_sliceAt_array_all (ht := Tryd.underlying35), hl, he, size5]
  rfl
set_option maxRecDepth 100000 in
set_option maxHeartbeats 2000000 in
theorem rmac_any (M N : Nat) (v u : Value) (k p : List Int) (w : World) (hp : HoldsB w M v k) (hq : HoldsB w N u p) (hlen : k.length ≤ 140737488351232) (hlen2 : p.length ≤ 140737488351300) :
    Calls Tryd.prog 104 #[v, u] w fun r w' => r = .returned (.agg (kv .u8 (macL k p)).toArray) ∧ Below w.heap.size w w' := by
  obtain ⟨a0, n, cap, rfl, hn⟩ := hp.slice
  have HP := Kp.mk hp
  have HQ := Kp.mk hq
  have HL := Kp.mk hlen
  have HL2 := Kp.mk hlen2
  have HN := Kp.mk hn
  have HKL := Kp.mk (keyb_len k)
  have hnm : n ≤ 140737488351232 := by omega
  obtain ⟨A, hA⟩ : ∃ A, A = w.heap.size := ⟨_, rfl⟩
  have HA := Kp.mk hA
  clear hp hq hlen hlen2
  by_cases hbig : 64 < n
  · have HBIG : Kp (keyb k = fill 64 (digest k)) := ⟨keyb_big (by omega)⟩
    have HDL := Kp.mk (digest_len k)
    have HCD := Kp.mk (cells24 (digest_len k))
    have HZD := Kp.mk (size32 (digest_len k))
    clear hn
    go_enter Tryd.func104, Tryd.ntmps104
    go_wp2_with fail
    rw [← hA]
    refine calls_world (fun W => Row W A 35 .u8 (fill 32 []) ∧ Row W (A + 1) 143 .u8 (fill 64 []) ∧ Below A w W) ⟨Row.alloc (Blk.newAt (w := w) z24 hA) _, Blk.newAt (w := w.alloc z24) z75 (by rw [hA]; simp), by rw [hA]; exact more (more (Below.refl _ _) z24) z75⟩ ?_
    rintro w1 ⟨hr, hr1, hb⟩
    have HR := Kp.mk hr
    have HR1 := Kp.mk hr1
    have HB := Kp.mk hb
    clear hr hr1 hb hA
    refine (rsum_any M _ k w1 (HP.out.keep (by rw [← HA.out]; exact HB.out)) (by have := HL.out; omega)).mono ?_
    rintro r w2 ⟨rfl, h2⟩
    have HR2 := Kp.mk (HR.out.keep h2)
    have HR3 := Kp.mk (HR1.out.keep h2)
    have HB2 : Kp (Below A w w2) := ⟨HB.out.trans (h2.mono (Nat.le_of_lt HR.out.lt))⟩
    clear h2
    generalize digest k = d at *
    obtain ⟨D, hD⟩ : ∃ D, D = w2.heap.size := ⟨_, rfl⟩
    have HADl : Kp (A + 1 < D) := ⟨by rw [hD]; exact HR3.out.lt⟩
    go_wp2_with (refine wpList_store_row rfl 35 (.tmp 6) (.tmp 17) rfl w2.heap.size (kv .u8 d).toArray rfl rfl 35 _ (Blk.new w2 z24) HCD.out HZD.out (kv_all _ _) ?_)
    rw [← hD]
    refine wp_world (fun W => Row W D 35 .u8 d ∧ Row W (A + 1) 143 .u8 (fill 64 (d.take 0)) ∧ Row W A 35 .u8 (fill 32 []) ∧ Below A w W) ⟨Row.setRow (k := .u8) (l := fill 32 []) (Blk.newAt z24 hD) _, Row.otherRow (HR3.out.alloc z24) (by have := HADl.out; omega) _, Row.otherRow (HR2.out.alloc z24) (by have := HADl.out; omega) _, Below.row (HB2.out.alloc (Nat.le_of_lt HR2.out.lt) z24) (by have := HADl.out; omega) _⟩ ?_
    rintro w3 ⟨h1, h2, h3, h4⟩
    have J1 := Kp.mk h1
    have J2 := Kp.mk h2
    have J3 := Kp.mk h3
    have J4 := Kp.mk h4
    clear h1 h2 h3 h4 hD
    go_loopw [7] (fun c wr => ∃ i : Nat, i ≤ 32 ∧ c = .int .i64 i ∧ Row wr D 35 .u8 d ∧ Row wr (A + 1) 143 .u8 (fill 64 (d.take i)) ∧ Row wr A 35 .u8 (fill 32 []) ∧ Below A w wr) (fun c _ => 32 - (intOf c).toNat)
    case atStart => exact ⟨0, by omega, rfl, J1.out, J2.out, J3.out, J4.out⟩
    case round =>
      obtain ⟨i, hi, rfl, h1, h2, h3, h4⟩ := hrel
      have G1 := Kp.mk h1
      have G2 := Kp.mk h2
      have G3 := Kp.mk h3
      have G4 := Kp.mk h4
      clear h1 h2 h3 h4 J1 J2 J3 J4
      by_cases hlt : i < 32
      · have c1 := G1.out.cell (i := i) (by rw [HDL.out]; exact hlt)
        have c2 := G2.out.cell (i := i) (by rw [fill_len (by rw [List.length_take]; omega)]; omega)
        have f2 := G2.out.frozen i
        have HS := Kp.mk (fill_take (n := 64) (l := d) (i := i) (by rw [HDL.out]; omega) (by omega))
        generalize d.getD i 0 = x at *
        go_wp2_with fail
        exact ⟨⟨i + 1, by omega, by go_num, G1.out.other (by show A + 1 ≠ D; have := HADl.out; omega) _, (G2.out.set i _).as HS.out, G3.out.other (by show A + 1 ≠ A; omega) _, G4.out.setCell (by show A ≤ A + 1; omega) _⟩, by simp [intOf]; omega⟩
      · have HI : Kp (i = 32) := ⟨by omega⟩
        have hge : 32 ≤ (i : Int) := by omega
        have L2 : Kp (Row wr (A + 1) 143 .u8 (keyb k)) := ⟨by
          have h := G2.out
          rw [HI.out, List.take_of_length_le (by rw [HDL.out]; exact Nat.le_refl _)] at h
          rw [HBIG.out]
          exact h⟩
        have L1 := G3
        have L3 := G4
        clear hlt hi G1 G2
        go_wp2_with fail
        go_loopw [9, 10, 11] (fun s9 s10 c wr => ∃ (j : Nat) (a9 a10 : Option Addr) (c9 c10 : Nat), j ≤ 64 ∧ s9 = .slice a9 j c9 ∧ s10 = .slice a10 j c10 ∧ c = .int .i64 j ∧ Kp (Twin wr (A + 2) (.slice a9 j c9) (.slice a10 j c10) j j (over ((keyb k).take j) 54) (over ((keyb k).take j) 92)) ∧ Row wr (A + 1) 143 .u8 (keyb k) ∧ Row wr A 35 .u8 (fill 32 []) ∧ Below A w wr) (fun _ _ c _ => 64 - (intOf c).toNat)
        case atStart => exact ⟨0, none, none, 0, 0, by omega, rfl, rfl, rfl, ⟨⟨World.ownsRow_nil _ _ _ _, World.ownsRow_nil _ _ _ _, fun g h => by simp [Value.ownBlock] at h⟩⟩, L2.out, L1.out, L3.out⟩
        case round =>
          obtain ⟨j, a9, a10, c9, c10, hj, rfl, rfl, rfl, HT, h1, h2, h3⟩ := hrel
          have G1 := Kp.mk h1
          have G2 := Kp.mk h2
          have G3 := Kp.mk h3
          clear h1 h2 h3 L1 L2 L3
          by_cases hlt : j < 64
          · have c1 := G1.out.cell (i := j) (by rw [keyb_len]; exact hlt)
            have HO1 := Kp.mk (over_succ (l := keyb k) (j := j) (by rw [keyb_len]; exact hlt) 54)
            have HO2 := Kp.mk (over_succ (l := keyb k) (j := j) (by rw [keyb_len]; exact hlt) 92)
            obtain ⟨y, hy⟩ : ∃ y, (keyb k).getD j 0 = y := ⟨_, rfl⟩
            rw [hy] at c1 HO1 HO2
            go_wp2_with (at_builtin; refine wpList_append_holds2 rfl _ _ rfl (A + 2) _ _ _ rfl (HT.out.one.alloc _) _ _ [bits .xor .u8 y 54] rfl (one_holds wr _ (bits_u8r _ _ _)) ?e0 ?e1 ?_)
            case e0 => simp; omega
            case e1 => have := G1.out.lt; simp; omega
            intro v1 w1 ho hg hw
            have HT1 := Kp.mk ((HT.out.alloc _).step (p := [bits .xor .u8 y 54]) ho hg (fun g e => by rw [World.size_alloc]; exact hw g e))
            have hbel : Below (A + 2) wr w1 := below_row_grown ((Below.refl _ _).alloc (by have := G1.out.lt; omega) _) (by have := G1.out.lt; simp; omega) (HT.out.one.alloc _) hg
            obtain ⟨b9, d9, rfl⟩ := row_slice HT1.out.one
            have F1 := Kp.mk (G1.out.upto hbel (by omega))
            have F2 := Kp.mk (G2.out.upto hbel (by omega))
            have F3 : Kp (Below A w w1) := ⟨G3.out.trans (hbel.mono (by omega))⟩
            have c2 := F1.out.cell (i := j) (by rw [keyb_len]; exact hlt)
            have HY : Kp ((keyb k).getD j 0 = y) := ⟨hy⟩
            rw [HY.out] at c2
            rw [← HO1.out] at HT1
            simp only [List.length_cons, List.length_nil, Nat.zero_add] at HT1
            clear ho hg hw hbel c1 HT G1 G2 G3 hy
            go_wp2_with (at_builtin; refine wpList_append_holds2 rfl _ _ rfl (A + 2) _ _ _ rfl (HT1.out.two.alloc _) _ _ [bits .xor .u8 y 92] rfl (one_holds w1 _ (bits_u8r _ _ _)) ?g0 ?g1 ?_)
            case g0 => simp; omega
            case g1 => have := F1.out.lt; simp; omega
            intro v2 w4 ho hg hw
            have HT2 := Kp.mk ((HT1.out.swap.alloc _).step (p := [bits .xor .u8 y 92]) ho hg (fun g e => by rw [World.size_alloc]; exact hw g e))
            have hbel : Below (A + 2) w1 w4 := below_row_grown ((Below.refl _ _).alloc (by have := F1.out.lt; omega) _) (by have := F1.out.lt; simp; omega) (HT1.out.two.alloc _) hg
            obtain ⟨b10, d10, rfl⟩ := row_slice HT2.out.one
            have K1 := Kp.mk (F1.out.upto hbel (by omega))
            have K2 := Kp.mk (F2.out.upto hbel (by omega))
            have K3 : Kp (Below A w w4) := ⟨F3.out.trans (hbel.mono (by omega))⟩
            rw [← HO2.out] at HT2
            simp only [List.length_cons, List.length_nil, Nat.zero_add] at HT2
            clear ho hg hw hbel c2 HT1 F1 F2 F3
            go_wp2_with fail
            exact ⟨⟨j + 1, b9, b10, d9, d10, by omega, rfl, rfl, by go_num, ⟨HT2.out.swap⟩, K1.out, K2.out, K3.out⟩, by simp [intOf]; omega⟩
          · obtain rfl : j = 64 := by omega
            have HT4 : Kp (Twin wr (A + 2) (.slice a9 64 c9) (.slice a10 64 c10) 64 64 (over (keyb k) 54) (over (keyb k) 92)) := by
              have h := HT.out
              rw [List.take_of_length_le (by rw [keyb_len]; exact Nat.le_refl _)] at h
              exact ⟨h⟩
            have HE : Kp (macL k p = digest (over (keyb k) 92 ++ digest (over (keyb k) 54 ++ p))) := ⟨rfl⟩
            have HOL : Kp (∀ x, (over (keyb k) x).length = 64) := ⟨fun x => by rw [over_len, keyb_len]⟩
            have HOB : Kp (∀ x, Bytes (over (keyb k) x)) := ⟨fun x => over_bytes _ x⟩
            have HQr : Kp (HoldsB wr N u p) := ⟨HQ.out.keep (by rw [← HA.out]; exact G3.out)⟩
            have HLe := Kp.mk G1.out.lt
            clear HT hj hlt
            obtain ⟨R, hR⟩ : ∃ R, R = macL k p := ⟨_, rfl⟩
            rw [← hR] at HE
            have HRR := Kp.mk hR
            clear hR
            generalize keyb k = B at *
            go_wp2_with (at_builtin; refine wpList_append_holds2 rfl _ _ rfl (A + 2) _ _ _ rfl HT4.out.one _ _ p rfl HQr.out ?k0 ?k1 ?_)
            case k0 => have := HL2.out; omega
            case k1 => have := HLe.out; omega
            intro v3 w5 ho hg hw
            have HT5 := Kp.mk (HT4.out.step (p := p) ho hg hw)
            have hbel : Below (A + 2) wr w5 := below_row_grown (Below.refl _ _) (by have := HLe.out; omega) HT4.out.one hg
            have K2 := Kp.mk (G2.out.upto hbel (by omega))
            have K3 : Kp (Below A w w5) := ⟨G3.out.trans (hbel.mono (by omega))⟩
            have HV3 : Kp (HoldsB w5 w5.heap.size v3 (over B 54 ++ p)) := ⟨HoldsB.ofRow ((HOB.out 54).append HQr.out.bytes) (by rw [List.length_append, HOL.out]; exact HT5.out.one)⟩
            have HS5 : Kp (A + 1 < w5.heap.size) := ⟨by have := HLe.out; have := hbel.size; omega⟩
            clear ho hg hw hbel HT4 G1 G2 G3
            go_wp2_with fail
            refine (rsum_any _ v3 (over B 54 ++ p) w5 HV3.out (by rw [List.length_append, HOL.out]; have := HL2.out; omega)).mono ?_
            rintro r w6 ⟨rfl, h6⟩
            have P2 := Kp.mk (K2.out.keep h6)
            have P3 : Kp (Below A w w6) := ⟨K3.out.trans (h6.mono (Nat.le_of_lt K2.out.lt))⟩
            have P4 := Kp.mk (ownsRow_below HT5.out.two h6)
            have HS6 : Kp (A + 1 < w6.heap.size) := ⟨by have := HS5.out; have := h6.size; omega⟩
            have HIL := Kp.mk (digest_len (over B 54 ++ p))
            have HIB := Kp.mk (digest_bytes (over B 54 ++ p))
            clear h6 K2 K3 HV3 HT5
            generalize digest (over B 54 ++ p) = I at *
            have HCI := Kp.mk (cells24 HIL.out)
            have HZI := Kp.mk (size32 HIL.out)
            obtain ⟨E, hEe⟩ : ∃ E, E = w6.heap.size := ⟨_, rfl⟩
            obtain ⟨W, hW⟩ : ∃ W, W = (w6.alloc z24).setRow E (kv .u8 I).toArray := ⟨_, rfl⟩
            have S1 : Kp (Row W E 35 .u8 I) := ⟨by rw [hW]; exact Row.setRow (k := .u8) (l := fill 32 []) (Blk.newAt z24 hEe) _⟩
            have S2 : Kp (Row W A 35 .u8 (fill 32 [])) := ⟨by rw [hW]; exact Row.otherRow (P2.out.alloc z24) (by have := P2.out.lt; omega) _⟩
            have S3 : Kp (Below A w W) := ⟨by rw [hW]; exact Below.row (P3.out.alloc (Nat.le_of_lt P2.out.lt) z24) (by have := P2.out.lt; omega) _⟩
            have S4 : Kp (W.ownsRow (A + 2) 5 1 (.slice a10 64 c10) 64 (bv (over B 92))) := ⟨by
              rw [hW]
              refine (P4.out.alloc z24).kept (row := some E) (Turn.grown (Turn.row (Turn.same (Blk.newAt z24 hEe)) _)) (Or.inr fun e => ?_)
              have := (P4.out.lt E e).2
              omega⟩
            have HH : Kp (HoldsB W W.heap.size (.slice (some ⟨E, 0, none⟩) 32 32) I) := ⟨by
              have h := HoldsB.ofBytes S1.out HIB.out (by rw [HIL.out]; decide)
              rw [HIL.out] at h
              exact h⟩
            have HSz : Kp (A + 2 ≤ W.heap.size) := ⟨by have := HS6.out; rw [hW]; simp [World.setRow]; omega⟩
            have hs := slice24_all
            subst hEe
            go_wp2_with (first
              | (refine wpList_store_row rfl 35 (.tmp 12) (.tmp 60) rfl w6.heap.size (kv .u8 I).toArray rfl rfl 35 _ (Blk.new w6 z24) HCI.out HZI.out (kv_all _ _) ?_; refine wpl_world (· = W) hW.symm ?_; clear hW; intro W0 e; rw [e]; clear e)
              | (at_builtin; refine wpList_append_holds2 rfl _ _ rfl (A + 2) _ _ _ rfl S4.out _ _ I rfl HH.out ?m0 ?m1 ?_))
            case m0 => rw [HIL.out]; omega
            case m1 => exact HSz.out
            intro v4 w7 ho hg hw
            have ho2 : w7.ownsRow (A + 2) 5 1 v4 (over B 92 ++ I).length (bv (over B 92 ++ I)) := by
              rw [List.length_append, HOL.out, show bv (over B 92 ++ I) = bv (over B 92) ++ bv I by simp]
              exact ho
            have hbel : Below (A + 2) W w7 := below_row_grown (Below.refl _ _) HSz.out S4.out hg
            have T2 := Kp.mk (S2.out.upto hbel (by omega))
            have T3 : Kp (Below A w w7) := ⟨S3.out.trans (hbel.mono (by omega))⟩
            have HV4 : Kp (HoldsB w7 w7.heap.size v4 (over B 92 ++ I)) := ⟨HoldsB.ofRow ((HOB.out 92).append HIB.out) ho2⟩
            clear ho hg hw hbel ho2 hs
            go_wp2_with fail
            refine (rsum_any _ v4 (over B 92 ++ I) w7 HV4.out (by rw [List.length_append, HOL.out, HIL.out]; omega)).mono ?_
            rintro r w8 ⟨rfl, h8⟩
            have U2 := Kp.mk (T2.out.keep h8)
            have U3 : Kp (Below A w w8) := ⟨T3.out.trans (h8.mono (Nat.le_of_lt T2.out.lt))⟩
            rw [← HE.out]
            have HRL : Kp (R.length = 32) := ⟨by rw [HE.out]; exact digest_len _⟩
            have HCR := Kp.mk (cells24 HRL.out)
            have HZR := Kp.mk (size32 HRL.out)
            have HF := Kp.mk (U2.out.setRow R)
            have HBf := Kp.mk (Below.row U3.out (g := A) (Nat.le_refl _) (kv .u8 R).toArray)
            clear h8
            go_wp2_with (refine wpList_store_row rfl 35 (.tmp 4) (.tmp 64) rfl A (kv .u8 R).toArray rfl rfl 35 _ U2.out HCR.out HZR.out (kv_all _ _) ?_)
            refine bodyPost_ret (v := .agg (kv .u8 R).toArray) ?_ rfl ⟨by rw [HRR.out], by rw [← HA.out]; exact HBf.out⟩
            exact results_cell_row rfl _ _ A 35 _ (0, 0) _ rfl HF.out Tryd.underlying35 rfl HCR.out
  · have HSM : Kp (keyb k = fill 64 k) := ⟨keyb_small (by omega)⟩
    have hle : n ≤ 64 := by omega
    clear hn hbig
    go_enter Tryd.func104, Tryd.ntmps104
    go_wp2_with fail
    rw [← hA]
    refine wp_world (fun W => Row W A 35 .u8 (fill 32 []) ∧ Row W (A + 1) 143 .u8 (fill 64 (k.take 0)) ∧ Below A w W) ⟨Row.alloc (Blk.newAt (w := w) z24 hA) _, Blk.newAt (w := w.alloc z24) z75 (by rw [hA]; simp), by rw [hA]; exact more (more (Below.refl _ _) z24) z75⟩ ?_
    rintro w1 ⟨hr, hr1, hb⟩
    have J1 := Kp.mk hr
    have J2 := Kp.mk hr1
    have J3 := Kp.mk hb
    clear hr hr1 hb hA
    go_loopw [8] (fun c wr => ∃ i : Nat, i ≤ n ∧ c = .int .i64 i ∧ Row wr (A + 1) 143 .u8 (fill 64 (k.take i)) ∧ Row wr A 35 .u8 (fill 32 []) ∧ Below A w wr) (fun c _ => n - (intOf c).toNat)
    case atStart => exact ⟨0, by omega, rfl, J2.out, J1.out, J3.out⟩
    case round =>
      obtain ⟨i, hi, rfl, h2, h3, h4⟩ := hrel
      have G2 := Kp.mk h2
      have G3 := Kp.mk h3
      have G4 := Kp.mk h4
      clear h2 h3 h4 J1 J2 J3
      have hki : n = k.length := HN.out
      by_cases hlt : i < n
      · obtain ⟨b0, off, rfl, -, c1⟩ := (HP.out.keep (by rw [← HA.out]; exact G4.out)).cellAt (i := i) (by omega)
        have c2 := G2.out.cell (i := i) (by rw [fill_len (by rw [List.length_take]; omega)]; omega)
        have f2 := G2.out.frozen i
        have HS := Kp.mk (fill_take (n := 64) (l := k) (i := i) (by omega) (by omega))
        generalize k.getD i 0 = x at *
        clear hki
        go_wp2_with fail
        exact ⟨⟨i + 1, by omega, by go_num, (G2.out.set i _).as HS.out, G3.out.other (by show A + 1 ≠ A; omega) _, G4.out.setCell (by show A ≤ A + 1; omega) _⟩, by simp [intOf]; omega⟩
      · have HI : Kp (i = n) := ⟨by omega⟩
        have hge : (n : Int) ≤ (i : Int) := by omega
        have hge2 : ¬ i < n := by omega
        have hge3 : n ≤ i := by omega
        have L2 : Kp (Row wr (A + 1) 143 .u8 (keyb k)) := ⟨by
          have h := G2.out
          rw [HI.out, List.take_of_length_le (by omega)] at h
          rw [HSM.out]
          exact h⟩
        have L1 := G3
        have L3 := G4
        clear hlt hi G2 hki
        go_wp2_with fail
        go_loopw [9, 10, 11] (fun s9 s10 c wr => ∃ (j : Nat) (a9 a10 : Option Addr) (c9 c10 : Nat), j ≤ 64 ∧ s9 = .slice a9 j c9 ∧ s10 = .slice a10 j c10 ∧ c = .int .i64 j ∧ Kp (Twin wr (A + 2) (.slice a9 j c9) (.slice a10 j c10) j j (over ((keyb k).take j) 54) (over ((keyb k).take j) 92)) ∧ Row wr (A + 1) 143 .u8 (keyb k) ∧ Row wr A 35 .u8 (fill 32 []) ∧ Below A w wr) (fun _ _ c _ => 64 - (intOf c).toNat)
        case atStart => exact ⟨0, none, none, 0, 0, by omega, rfl, rfl, rfl, ⟨⟨World.ownsRow_nil _ _ _ _, World.ownsRow_nil _ _ _ _, fun g h => by simp [Value.ownBlock] at h⟩⟩, L2.out, L1.out, L3.out⟩
        case round =>
          obtain ⟨j, a9, a10, c9, c10, hj, rfl, rfl, rfl, HT, h1, h2, h3⟩ := hrel
          have G1 := Kp.mk h1
          have G2 := Kp.mk h2
          have G3 := Kp.mk h3
          clear h1 h2 h3 L1 L2 L3
          by_cases hlt : j < 64
          · have c1 := G1.out.cell (i := j) (by rw [keyb_len]; exact hlt)
            have HO1 := Kp.mk (over_succ (l := keyb k) (j := j) (by rw [keyb_len]; exact hlt) 54)
            have HO2 := Kp.mk (over_succ (l := keyb k) (j := j) (by rw [keyb_len]; exact hlt) 92)
            obtain ⟨y, hy⟩ : ∃ y, (keyb k).getD j 0 = y := ⟨_, rfl⟩
            rw [hy] at c1 HO1 HO2
            go_wp2_with (at_builtin; refine wpList_append_holds2 rfl _ _ rfl (A + 2) _ _ _ rfl (HT.out.one.alloc _) _ _ [bits .xor .u8 y 54] rfl (one_holds wr _ (bits_u8r _ _ _)) ?e0 ?e1 ?_)
            case e0 => simp; omega
            case e1 => have := G1.out.lt; simp; omega
            intro v1 w1 ho hg hw
            have HT1 := Kp.mk ((HT.out.alloc _).step (p := [bits .xor .u8 y 54]) ho hg (fun g e => by rw [World.size_alloc]; exact hw g e))
            have hbel : Below (A + 2) wr w1 := below_row_grown ((Below.refl _ _).alloc (by have := G1.out.lt; omega) _) (by have := G1.out.lt; simp; omega) (HT.out.one.alloc _) hg
            obtain ⟨b9, d9, rfl⟩ := row_slice HT1.out.one
            have F1 := Kp.mk (G1.out.upto hbel (by omega))
            have F2 := Kp.mk (G2.out.upto hbel (by omega))
            have F3 : Kp (Below A w w1) := ⟨G3.out.trans (hbel.mono (by omega))⟩
            have c2 := F1.out.cell (i := j) (by rw [keyb_len]; exact hlt)
            have HY : Kp ((keyb k).getD j 0 = y) := ⟨hy⟩
            rw [HY.out] at c2
            rw [← HO1.out] at HT1
            simp only [List.length_cons, List.length_nil, Nat.zero_add] at HT1
            clear ho hg hw hbel c1 HT G1 G2 G3 hy
            go_wp2_with (at_builtin; refine wpList_append_holds2 rfl _ _ rfl (A + 2) _ _ _ rfl (HT1.out.two.alloc _) _ _ [bits .xor .u8 y 92] rfl (one_holds w1 _ (bits_u8r _ _ _)) ?g0 ?g1 ?_)
            case g0 => simp; omega
            case g1 => have := F1.out.lt; simp; omega
            intro v2 w4 ho hg hw
            have HT2 := Kp.mk ((HT1.out.swap.alloc _).step (p := [bits .xor .u8 y 92]) ho hg (fun g e => by rw [World.size_alloc]; exact hw g e))
            have hbel : Below (A + 2) w1 w4 := below_row_grown ((Below.refl _ _).alloc (by have := F1.out.lt; omega) _) (by have := F1.out.lt; simp; omega) (HT1.out.two.alloc _) hg
            obtain ⟨b10, d10, rfl⟩ := row_slice HT2.out.one
            have K1 := Kp.mk (F1.out.upto hbel (by omega))
            have K2 := Kp.mk (F2.out.upto hbel (by omega))
            have K3 : Kp (Below A w w4) := ⟨F3.out.trans (hbel.mono (by omega))⟩
            rw [← HO2.out] at HT2
            simp only [List.length_cons, List.length_nil, Nat.zero_add] at HT2
            clear ho hg hw hbel c2 HT1 F1 F2 F3
            go_wp2_with fail
            exact ⟨⟨j + 1, b9, b10, d9, d10, by omega, rfl, rfl, by go_num, ⟨HT2.out.swap⟩, K1.out, K2.out, K3.out⟩, by simp [intOf]; omega⟩
          · obtain rfl : j = 64 := by omega
            have HT4 : Kp (Twin wr (A + 2) (.slice a9 64 c9) (.slice a10 64 c10) 64 64 (over (keyb k) 54) (over (keyb k) 92)) := by
              have h := HT.out
              rw [List.take_of_length_le (by rw [keyb_len]; exact Nat.le_refl _)] at h
              exact ⟨h⟩
            have HE : Kp (macL k p = digest (over (keyb k) 92 ++ digest (over (keyb k) 54 ++ p))) := ⟨rfl⟩
            have HOL : Kp (∀ x, (over (keyb k) x).length = 64) := ⟨fun x => by rw [over_len, keyb_len]⟩
            have HOB : Kp (∀ x, Bytes (over (keyb k) x)) := ⟨fun x => over_bytes _ x⟩
            have HQr : Kp (HoldsB wr N u p) := ⟨HQ.out.keep (by rw [← HA.out]; exact G3.out)⟩
            have HLe := Kp.mk G1.out.lt
            clear HT hj hlt
            obtain ⟨R, hR⟩ : ∃ R, R = macL k p := ⟨_, rfl⟩
            rw [← hR] at HE
            have HRR := Kp.mk hR
            clear hR
            generalize keyb k = B at *
            go_wp2_with (at_builtin; refine wpList_append_holds2 rfl _ _ rfl (A + 2) _ _ _ rfl HT4.out.one _ _ p rfl HQr.out ?k0 ?k1 ?_)
            case k0 => have := HL2.out; omega
            case k1 => have := HLe.out; omega
            intro v3 w5 ho hg hw
            have HT5 := Kp.mk (HT4.out.step (p := p) ho hg hw)
            have hbel : Below (A + 2) wr w5 := below_row_grown (Below.refl _ _) (by have := HLe.out; omega) HT4.out.one hg
            have K2 := Kp.mk (G2.out.upto hbel (by omega))
            have K3 : Kp (Below A w w5) := ⟨G3.out.trans (hbel.mono (by omega))⟩
            have HV3 : Kp (HoldsB w5 w5.heap.size v3 (over B 54 ++ p)) := ⟨HoldsB.ofRow ((HOB.out 54).append HQr.out.bytes) (by rw [List.length_append, HOL.out]; exact HT5.out.one)⟩
            have HS5 : Kp (A + 1 < w5.heap.size) := ⟨by have := HLe.out; have := hbel.size; omega⟩
            clear ho hg hw hbel HT4 G1 G2 G3
            go_wp2_with fail
            refine (rsum_any _ v3 (over B 54 ++ p) w5 HV3.out (by rw [List.length_append, HOL.out]; have := HL2.out; omega)).mono ?_
            rintro r w6 ⟨rfl, h6⟩
            have P2 := Kp.mk (K2.out.keep h6)
            have P3 : Kp (Below A w w6) := ⟨K3.out.trans (h6.mono (Nat.le_of_lt K2.out.lt))⟩
            have P4 := Kp.mk (ownsRow_below HT5.out.two h6)
            have HS6 : Kp (A + 1 < w6.heap.size) := ⟨by have := HS5.out; have := h6.size; omega⟩
            have HIL := Kp.mk (digest_len (over B 54 ++ p))
            have HIB := Kp.mk (digest_bytes (over B 54 ++ p))
            clear h6 K2 K3 HV3 HT5
            generalize digest (over B 54 ++ p) = I at *
            have HCI := Kp.mk (cells24 HIL.out)
            have HZI := Kp.mk (size32 HIL.out)
            obtain ⟨E, hEe⟩ : ∃ E, E = w6.heap.size := ⟨_, rfl⟩
            obtain ⟨W, hW⟩ : ∃ W, W = (w6.alloc z24).setRow E (kv .u8 I).toArray := ⟨_, rfl⟩
            have S1 : Kp (Row W E 35 .u8 I) := ⟨by rw [hW]; exact Row.setRow (k := .u8) (l := fill 32 []) (Blk.newAt z24 hEe) _⟩
            have S2 : Kp (Row W A 35 .u8 (fill 32 [])) := ⟨by rw [hW]; exact Row.otherRow (P2.out.alloc z24) (by have := P2.out.lt; omega) _⟩
            have S3 : Kp (Below A w W) := ⟨by rw [hW]; exact Below.row (P3.out.alloc (Nat.le_of_lt P2.out.lt) z24) (by have := P2.out.lt; omega) _⟩
            have S4 : Kp (W.ownsRow (A + 2) 5 1 (.slice a10 64 c10) 64 (bv (over B 92))) := ⟨by
              rw [hW]
              refine (P4.out.alloc z24).kept (row := some E) (Turn.grown (Turn.row (Turn.same (Blk.newAt z24 hEe)) _)) (Or.inr fun e => ?_)
              have := (P4.out.lt E e).2
              omega⟩
            have HH : Kp (HoldsB W W.heap.size (.slice (some ⟨E, 0, none⟩) 32 32) I) := ⟨by
              have h := HoldsB.ofBytes S1.out HIB.out (by rw [HIL.out]; decide)
              rw [HIL.out] at h
              exact h⟩
            have HSz : Kp (A + 2 ≤ W.heap.size) := ⟨by have := HS6.out; rw [hW]; simp [World.setRow]; omega⟩
            have hs := slice24_all
            subst hEe
            go_wp2_with (first
              | (refine wpList_store_row rfl 35 (.tmp 12) (.tmp 60) rfl w6.heap.size (kv .u8 I).toArray rfl rfl 35 _ (Blk.new w6 z24) HCI.out HZI.out (kv_all _ _) ?_; refine wpl_world (· = W) hW.symm ?_; clear hW; intro W0 e; rw [e]; clear e)
              | (at_builtin; refine wpList_append_holds2 rfl _ _ rfl (A + 2) _ _ _ rfl S4.out _ _ I rfl HH.out ?m0 ?m1 ?_))
            case m0 => rw [HIL.out]; omega
            case m1 => exact HSz.out
            intro v4 w7 ho hg hw
            have ho2 : w7.ownsRow (A + 2) 5 1 v4 (over B 92 ++ I).length (bv (over B 92 ++ I)) := by
              rw [List.length_append, HOL.out, show bv (over B 92 ++ I) = bv (over B 92) ++ bv I by simp]
              exact ho
            have hbel : Below (A + 2) W w7 := below_row_grown (Below.refl _ _) HSz.out S4.out hg
            have T2 := Kp.mk (S2.out.upto hbel (by omega))
            have T3 : Kp (Below A w w7) := ⟨S3.out.trans (hbel.mono (by omega))⟩
            have HV4 : Kp (HoldsB w7 w7.heap.size v4 (over B 92 ++ I)) := ⟨HoldsB.ofRow ((HOB.out 92).append HIB.out) ho2⟩
            clear ho hg hw hbel ho2 hs
            go_wp2_with fail
            refine (rsum_any _ v4 (over B 92 ++ I) w7 HV4.out (by rw [List.length_append, HOL.out, HIL.out]; omega)).mono ?_
            rintro r w8 ⟨rfl, h8⟩
            have U2 := Kp.mk (T2.out.keep h8)
            have U3 : Kp (Below A w w8) := ⟨T3.out.trans (h8.mono (Nat.le_of_lt T2.out.lt))⟩
            rw [← HE.out]
            have HRL : Kp (R.length = 32) := ⟨by rw [HE.out]; exact digest_len _⟩
            have HCR := Kp.mk (cells24 HRL.out)
            have HZR := Kp.mk (size32 HRL.out)
            have HF := Kp.mk (U2.out.setRow R)
            have HBf := Kp.mk (Below.row U3.out (g := A) (Nat.le_refl _) (kv .u8 R).toArray)
            clear h8
            go_wp2_with (refine wpList_store_row rfl 35 (.tmp 4) (.tmp 64) rfl A (kv .u8 R).toArray rfl rfl 35 _ U2.out HCR.out HZR.out (kv_all _ _) ?_)
            refine bodyPost_ret (v := .agg (kv .u8 R).toArray) ?_ rfl ⟨by rw [HRR.out], by rw [← HA.out]; exact HBf.out⟩
            exact results_cell_row rfl _ _ A 35 _ (0, 0) _ rfl HF.out Tryd.underlying35 rfl HCR.out
end Go.Proofs.YtpljjmdkagbjpaaDoor

namespace Go.Proofs.YtpljjmdkagbjpaaDoor
open Go.RowKit

set_option maxRecDepth 100000 in
set_option maxHeartbeats 1000000 in
theorem rtag_any (M N : Nat) (v u : Value) (k p : List Int) (w : World) (hp : HoldsB w M v k) (hq : HoldsB w N u p) (hlen : k.length ≤ 140737488351232) (hlen2 : p.length ≤ 140737488351300) :
    Calls Tryd.prog 95 #[v, u] w fun r w' => r = .returned (.agg (kv .u8 (halfL (macL k p))).toArray) ∧ Below w.heap.size w w' := by
  have HP := Kp.mk hp
  have HQ := Kp.mk hq
  have HL := Kp.mk hlen
  have HL2 := Kp.mk hlen2
  clear hp hq hlen hlen2
  go_enter Tryd.func95, Tryd.ntmps95
  go_wp2_with fail
  refine calls_world (fun W => Row W w.heap.size 25 .u8 (fill 16 []) ∧ Below w.heap.size w W) ⟨Blk.newAt (w := w) z49 rfl, more (Below.refl _ _) z49⟩ ?_
  rintro w1 ⟨hr, hb⟩
  have HR := Kp.mk hr
  have HB := Kp.mk hb
  clear hr hb
  refine (rmac_any M N v u k p w1 (HP.out.keep HB.out) (HQ.out.keep HB.out) HL.out HL2.out).mono ?_
  rintro r w2 ⟨rfl, h2⟩
  have HR2 := Kp.mk (HR.out.keep h2)
  have HB2 : Kp (Below w.heap.size w w2) := ⟨HB.out.trans (h2.mono HB.out.size)⟩
  have HM := Kp.mk (macL_len k p)
  obtain ⟨d, hd⟩ : ∃ d, d = macL k p := ⟨_, rfl⟩
  rw [← hd] at HM ⊢
  have HD := Kp.mk hd
  clear h2 hd
  go_wp2_with fail
  refine (rhalf_any d w2 HM.out).mono ?_
  rintro r w3 ⟨rfl, h3⟩
  have HR3 := Kp.mk (HR2.out.keep h3)
  have HB3 : Kp (Below w.heap.size w w3) := ⟨HB2.out.trans (h3.mono HB2.out.size)⟩
  have HC := Kp.mk (cells49 (halfL_len HM.out))
  have HZ := Kp.mk (size50 (halfL_len HM.out))
  have HF := Kp.mk (HR3.out.setRow (halfL d))
  have HBf := Kp.mk (Below.row HB3.out (g := w.heap.size) (Nat.le_refl _) (kv .u8 (halfL d)).toArray)
  clear h3
  go_wp2_with (refine wpList_store_row rfl 25 (.tmp 4) (.tmp 8) rfl w.heap.size (kv .u8 (halfL d)).toArray rfl rfl 25 _ HR3.out HC.out HZ.out (kv_all _ _) ?_)
  refine bodyPost_ret (v := .agg (kv .u8 (halfL d)).toArray) ?_ rfl ⟨by rw [HD.out], HBf.out⟩
  exact results_cell_row rfl _ _ w.heap.size 25 _ (0, 0) _ rfl HF.out Tryd.underlying25 rfl HC.out
end Go.Proofs.YtpljjmdkagbjpaaDoor

namespace Go.Proofs.YtpljjmdkagbjpaaDoor
open Go.ChangeShapes Go.WideShapes Go.ChangeAt Go.RowKit Go.Deep

theorem okWide_arr {P : Program} {w : World} {r : Reach} {base : Nat} {t e : TypeId} {n : Nat} {v : Value} (ht : P.underlying t = some (.array n e)) (h : Value.okWide P w r base t v) : ∃ cs, v = .agg cs ∧ cs.size = P.cellsOf t := by
  simp only [Value.okWide, ht] at h
  obtain ⟨cs, h1, h2, _⟩ := h
  exact ⟨cs, h1, h2⟩
set_option maxRecDepth 100000 in
/-- An array of bytes that came in by value. -/
theorem open_bytes {H : Type} {enc : TypeId × Value → H} {W : World} {r : Reach} {base b0 : Nat} {spare held : Bool} {t : TypeId} {n : Nat} {v : Value} {d : DataW H} {p : List MemPlace}
    (ht : Tryd.prog.underlying t = some (.array n 5)) (hC : Tryd.prog.cellsOf t = n) (hv : Value.okWide Tryd.prog W r b0 t v) (h : DataW.Trod enc Tryd.prog W base (fun _ => spare) held t v d p) :
    ∃ l : List Int, v = .agg (kv .u8 l).toArray ∧ l.length = n ∧ Bytes l := by
  have c5 : Tryd.prog.cellsOf 5 = 1 := by kernel_rfl
  obtain ⟨cs, rfl, hsz⟩ := okWide_arr ht hv
  obtain ⟨fuel, hf⟩ := h
  obtain ⟨xs, m, rfl, hx, hlen, hn, hel⟩ := DataW.trod_array ht hf
  have hcl : cs.size = n := hsz.trans hC
  have each : ∀ i, i < n → ∃ z : Int, cs.toList[i]? = some (.int .u8 z) ∧ 0 ≤ z ∧ z ≤ 255 := fun i hi => by
    have he := hel i hi
    rw [c5, Nat.mul_one] at he
    rw [List.getElem?_eq_getElem (by omega)] at he
    obtain ⟨k, e1, _, wk⟩ := DataW.trod_int Tryd.underlying5 he
    have h1 : IntKind.u8.min = 0 := rfl
    have h2 : IntKind.u8.max = 255 := rfl
    simp [Lit.wf, h1, h2] at wk
    refine ⟨k, ?_, wk⟩
    have h4 := congrArg (fun l : List Value => l[0]?) e1
    simp only [List.getElem?_take, List.getElem?_drop, Nat.lt_one_iff, if_true, Nat.add_zero] at h4
    simpa [Value.cells] using h4
  obtain ⟨f, hf'⟩ : ∃ f : Nat → Int, ∀ i, i < n → cs.toList[i]? = some (.int .u8 (f i)) ∧ 0 ≤ f i ∧ f i ≤ 255 := by
    refine ⟨fun i => if h : i < n then Classical.choose (each i h) else 0, fun i hi => ?_⟩
    simp only [hi, dif_pos]
    exact Classical.choose_spec (each i hi)
  refine ⟨(List.range n).map f, ?_, by simp, fun z hz => ?_⟩
  · congr 1
    apply Array.toList_inj.1
    apply List.ext_getElem?
    intro i
    by_cases hi : i < n
    · rw [(hf' i hi).1]
      simp [List.getElem?_range hi]
    · rw [List.getElem?_eq_none (by simp; omega), List.getElem?_eq_none (by simp; omega)]
  · obtain ⟨i, hi, rfl⟩ := List.mem_map.1 hz
    exact (hf' i (List.mem_range.1 hi)).2
/-- The slice's cells are the numbers ns, each of 64 bits. -/
def HoldsQ (w : World) (a : Option Addr) (ns : List Int) : Prop :=
  (∀ x ∈ ns, 0 ≤ x ∧ x < 18446744073709551616) ∧ ∀ i, i < ns.length → ∃ b off, a = some ⟨b, off, none⟩ ∧ b < w.heap.size ∧ w.cell? ⟨b, off + i, none⟩ = some (.int .u64 (ns.getD i 0))
theorem HoldsQ.keep {w w' : World} {a : Option Addr} {ns : List Int} (h : HoldsQ w a ns) (hb : Below w.heap.size w w') : HoldsQ w' a ns := by
  refine ⟨h.1, fun i hi => ?_⟩
  obtain ⟨b, off, e1, e2, e3⟩ := h.2 i hi
  exact ⟨b, off, e1, Nat.lt_of_lt_of_le e2 hb.size, (hb.cell (p := ⟨b, off + i, none⟩) e2).trans e3⟩
/-- A slice of numbers that came in. -/
theorem row_nums {H : Type} {enc : TypeId × Value → H} {W : World} {a : Option Addr} {len cap : Nat} {d : DataW H} {p : List MemPlace}
    (k : DataW.Trod enc Tryd.prog W 0 (fun _ => true) true 131 (.slice a len cap) d p) : ∃ ns, ns.length = len ∧ HoldsQ W a ns := by
  obtain ⟨fuel, hf⟩ := k
  rcases open_slice1 Tryd.underlying131 (by kernel_rfl) hf with ⟨hcs, _⟩ | ⟨x, l, c, m, n, V, D, Pl, hcs, hb, hl, hm, hmm, hx, hi⟩
  · simp [Value.cells] at hcs
    obtain ⟨rfl, rfl, rfl⟩ := hcs
    exact ⟨[], rfl, (fun x h => by cases h), fun i hi => by simp at hi⟩
  · simp [Value.cells] at hcs
    obtain ⟨rfl, rfl, rfl⟩ := hcs
    have hmc : m = cap := by simpa using hmm
    have each : ∀ i, i < len → ∃ z : Int, W.cell? (x.add i) = some (.int .u64 z) ∧ 0 ≤ z ∧ z < 18446744073709551616 := fun i him => by
      obtain ⟨hc, ht⟩ := hi i (by omega)
      obtain ⟨u, e0, _, wu⟩ := DataW.trod_int Tryd.underlying111 ht
      simp only [List.cons.injEq, and_true] at e0
      rw [e0] at hc
      have h1 : IntKind.u64.min = 0 := rfl
      have h2 : IntKind.u64.max = 18446744073709551615 := rfl
      simp [Lit.wf, h1, h2] at wu
      exact ⟨u, hc, by omega⟩
    obtain ⟨f, hf'⟩ : ∃ f : Nat → Int, ∀ i, i < len → W.cell? (x.add i) = some (.int .u64 (f i)) ∧ 0 ≤ f i ∧ f i < 18446744073709551616 := by
      refine ⟨fun i => if h : i < len then Classical.choose (each i h) else 0, fun i hi => ?_⟩
      simp only [hi, dif_pos]
      exact Classical.choose_spec (each i hi)
    refine ⟨(List.range len).map f, by simp, fun z hz => ?_, fun i hi' => ?_⟩
    · obtain ⟨i, hi, rfl⟩ := List.mem_map.1 hz
      exact (hf' i (List.mem_range.1 hi)).2
    · simp at hi'
      have h1 := (hf' i hi').1
      have hsp : x.spot = none ∧ x.block < W.heap.size := by
        have h1 := (hf' 0 (by omega)).1
        have h2 : x.add 0 = x := by simp [Addr.add]
        rw [h2] at h1
        exact ⟨World.cell?_spot h1, World.block_lt_of_cell? W _ h1⟩
      obtain ⟨b, off, spot⟩ := x
      simp only at hsp
      obtain ⟨rfl, hlt⟩ := hsp
      have e : (⟨b, off, none⟩ : Addr).add i = ⟨b, off + i, none⟩ := by unfold Addr.add; split <;> simp_all
      rw [e] at h1
      refine ⟨b, off, rfl, hlt, ?_⟩
      rw [h1, List.getD_eq_getElem?_getD, List.getElem?_map, List.getElem?_range hi']
      rfl
set_option maxRecDepth 100000 in
/-- How many there can be. -/
theorem nums_reach {H : Type} {enc : TypeId × Value → H} {W : World} {a : Option Addr} {len cap : Nat} {d : DataW H} {p : List MemPlace}
    (k : DataW.Trod enc Tryd.prog W 0 (fun _ => true) true 131 (.slice a len cap) d p) {ts : List TypeId} {ds : List (DataW H)} {j : Nat}
    (hs : (DataW.weightsEach Tryd.prog ts ds).all (· ≤ reachBytes) = true) (ht : ts[j]? = some 131) (hd : ds[j]? = some d) : 8 * len ≤ 140737488351232 := by
  have hb : Tryd.prog.bytesOf 111 = 8 := by kernel_rfl
  obtain ⟨fuel, hf⟩ := k
  rcases open_slice1 Tryd.underlying131 (by kernel_rfl) hf with ⟨hcs, _⟩ | ⟨x, l, c, m, n, V, D, Pl, hcs, hb, hl, hm, hmm, hx, hi⟩
  · simp [Value.cells] at hcs
    obtain ⟨rfl, rfl, rfl⟩ := hcs
    omega
  · simp [Value.cells] at hcs
    obtain ⟨rfl, rfl, rfl⟩ := hcs
    simp only [Prod.mk.injEq] at hx
    rw [hx.1] at hd
    have := sized_slice hs ht hd Tryd.underlying131
    rw [‹Tryd.prog.bytesOf 111 = 8›] at this
    simp only [List.length_map, List.length_range, reachBytes] at this
    omega
end Go.Proofs.YtpljjmdkagbjpaaDoor

namespace Go.Proofs.YtpljjmdkagbjpaaDoor
open Go.RowKit

/-- The bytes of some kind and some numbers. -/
def prfB (k : Int) (n : Nat) (ns : List Int) : List Int := [k, (n : Int) % 256] ++ ns.flatMap be64
theorem flat_len (ns : List Int) : (ns.flatMap be64).length = 8 * ns.length := by
  induction ns with
  | nil => rfl
  | cons x xs ih => rw [List.flatMap_cons, List.length_append, ih, be64_len, List.length_cons]; omega
theorem prfB_len (k : Int) (n : Nat) (ns : List Int) : (prfB k n ns).length = 2 + 8 * ns.length := by
  unfold prfB
  rw [List.length_append, flat_len]
  rfl
theorem prfB_take (k : Int) (n : Nat) (ns : List Int) (i : Nat) (h : i < ns.length) : prfB k n (ns.take (i + 1)) = prfB k n (ns.take i) ++ be64 (ns.getD i 0) := by
  unfold prfB
  rw [take_succ_get h, List.flatMap_append, ← List.append_assoc]
  simp
theorem prfB_bytes (k : Int) (n : Nat) (ns : List Int) (h : 0 ≤ k ∧ k ≤ 255) : Bytes (prfB k n ns) := by
  intro x hx
  unfold prfB at hx
  rcases List.mem_append.1 hx with hx | hx
  · simp at hx
    rcases hx with rfl | rfl
    · exact h
    · omega
  · obtain ⟨y, _, hy⟩ := List.mem_flatMap.1 hx
    exact be64_bytes y x hy
theorem be64_take (x : Int) (j : Nat) (h : j < 8) : (be64 x).take (j + 1) = (be64 x).take j ++ [x / 2 ^ (56 - 8 * j) % 256] := by
  rw [← be64_get x j h, take_succ_get (by rw [be64_len]; exact h)]
/-- A literal of two bytes. -/
theorem ownsRow_two (w : World) (x y : Int) : (w.alloc (.cells #[.int .u8 x, .int .u8 y] 5)).ownsRow w.heap.size 5 1 (.slice (some ⟨w.heap.size, 0, none⟩) 2 2) 2 (bv [x, y]) :=
  ⟨rfl, .inr ⟨w.heap.size, 2, _, rfl, Nat.le_refl _, heap_alloc_new w _, Nat.le_refl _, by unfold maxLen; omega, rfl, rfl⟩⟩
abbrev z118 : Obj := .cells (kv .u8 (fill 32 [])).toArray 95
theorem slice118_all (b : Nat) (w : World) : (Instr.sliceAt 95 (.pointer (some ⟨b, 0, none⟩)) none none none).run Tryd.prog w = .ok (.slice (some ⟨b, 0, none⟩) 32 32) w := slice25_all b w
set_option maxRecDepth 100000 in
set_option maxHeartbeats 1000000 in
theorem prf_any (s : List Int) (k : Int) (n cap : Nat) (a : Option Addr) (ns : List Int) (w : World) (hk : KonIs w) (hs : s.length = 32) (hsb : Bytes s) (hk8 : 0 ≤ k ∧ k ≤ 255) (hn : ns.length = n) (hq : HoldsQ w a ns) (hlen : 8 * n ≤ 140737488351232) :
    Calls Tryd.prog 74 #[.agg (kv .u8 s).toArray, .int .u8 k, .slice a n cap] w fun r w' => r = .returned (.agg (kv .u8 (halfL (macL s (prfB k n ns)))).toArray) ∧ Below w.heap.size w w' := by
  have HK := Kp.mk hk
  have HS := Kp.mk hs
  have HSB := Kp.mk hsb
  have HK8 := Kp.mk hk8
  have HN := Kp.mk hn
  have HQ := Kp.mk hq
  clear hk hs hsb hn hq
  have k0 := hk8.1
  have k1 := hk8.2
  clear hk8
  go_enter Tryd.func74, Tryd.ntmps74
  go_wp2_with fail
  obtain ⟨A, hA⟩ : ∃ A, A = w.heap.size := ⟨_, rfl⟩
  have HA := Kp.mk hA
  rw [← hA]
  refine wp_world (fun W => Row W A 95 .u8 s ∧ Row W (A + 1) 27 .u8 (fill 16 []) ∧ W.ownsRow (A + 1 + 1) 5 1 (.slice (some ⟨A + 1 + 1, 0, none⟩) 2 2) 2 (bv (prfB k n [])) ∧ Below A w W)
    ⟨Blk.old (Blk.old (Blk.newAt _ hA) _) _, Blk.old (Blk.newAt _ (by simp [hA])) _, ?_, by rw [hA]; exact more (more (more (Below.refl _ _) _) _) _⟩ ?_
  · have h := ownsRow_two ((w.alloc (.cells (kv .u8 s).toArray 95)).alloc z50) k ((n : Int) % 256)
    have e : ((w.alloc (.cells (kv .u8 s).toArray 95)).alloc z50).heap.size = A + 1 + 1 := by simp [hA]
    rw [e] at h
    exact h
  generalize hB : A + 1 + 1 = B
  have HB := Kp.mk hB
  clear hA hB
  rintro W ⟨h1, h2, h3, h4⟩
  have G1 := Kp.mk h1
  have G2 := Kp.mk h2
  have G3 := Kp.mk h3
  have G4 := Kp.mk h4
  clear h1 h2 h3 h4
  go_loopw [7, 18] (fun s7 c wr => ∃ (i N : Nat) (a7 : Option Addr) (c7 : Nat), i ≤ n ∧ c = .int .i64 i ∧ s7 = .slice a7 N c7 ∧ Kp (N = 2 + 8 * i) ∧ Row wr A 95 .u8 s ∧ Row wr (A + 1) 27 .u8 (fill 16 []) ∧ wr.ownsRow B 5 1 (.slice a7 N c7) N (bv (prfB k n (ns.take i))) ∧ Below A w wr) (fun _ c _ => n - (intOf c).toNat)
  case atStart => exact ⟨0, 2, _, _, by omega, rfl, rfl, ⟨rfl⟩, G1.out, G2.out, by rw [List.take_zero]; exact G3.out, G4.out⟩
  case round =>
    obtain ⟨i, N, a7, c7, hi, rfl, rfl, HNN, h1, h2, h3, h4⟩ := hrel
    clear G1 G2 G3 G4
    have G1 := Kp.mk h1
    have G2 := Kp.mk h2
    have G3 := Kp.mk h3
    have G4 := Kp.mk h4
    clear h1 h2 h3 h4
    by_cases hlt : i < n
    · obtain ⟨b, off, rfl, hbw, hcell⟩ := HQ.out.2 i (by rw [HN.out]; exact hlt)
      have cw : wr.cell? ⟨b, off + i, none⟩ = some (.int .u64 (ns.getD i 0)) := (World.cell?_of_block (w := w) (a := ⟨b, off + i, none⟩) (G4.out.block b (by rw [HA.out]; exact hbw))).trans hcell
      have hx : 0 ≤ ns.getD i 0 ∧ ns.getD i 0 < 18446744073709551616 := by
        rw [List.getD_eq_getElem?_getD, List.getElem?_eq_getElem (by rw [HN.out]; exact hlt)]
        exact HQ.out.1 _ (List.getElem_mem _)
      have x0 := hx.1
      have x1 := hx.2
      have HST := Kp.mk (prfB_take k n ns i (by rw [HN.out]; exact hlt))
      clear hcell hx
      generalize ns.getD i 0 = x at *
      generalize hP : prfB k n (ns.take i) = p0 at *
      have HP := Kp.mk hP
      clear hP
      have hNb : N ≤ 140737488352000 := by have := HNN.out; omega
      go_wp2_with fail
      clear cw
      go_loopw [7, 22] (fun s7 c wq => ∃ (j L : Nat) (a8 : Option Addr) (c8 : Nat), j ≤ 8 ∧ c = .int .i64 j ∧ s7 = .slice a8 L c8 ∧ Kp (L = N + j) ∧ wq.ownsRow B 5 1 (.slice a8 L c8) L (bv (p0 ++ (be64 x).take j)) ∧ Below B wr wq) (fun _ c _ => 8 - (intOf c).toNat)
      case atStart => exact ⟨0, N, _, _, by omega, rfl, rfl, ⟨rfl⟩, by simpa using G3.out, Below.refl _ _⟩
      case round =>
        obtain ⟨j, L, a8, c8, hj, rfl, rfl, HL, h5, h6⟩ := hrel
        have F1 := Kp.mk h5
        have F2 := Kp.mk h6
        clear h5 h6
        have hLb : L ≤ 140737488352010 := by have := HL.out; omega
        have HSz : Kp (B ≤ wr.heap.size ∧ A ≤ B) := ⟨by have h := F2.out.size; have := G2.out.lt; have := HB.out; omega, by have := HB.out; omega⟩
        by_cases hl8 : j < 8
        · have HT := Kp.mk (be64_take x j hl8)
          go_wp2_with (at_builtin; refine wpList_append_holds rfl _ _ rfl B _ _ _ rfl (F1.out.alloc _) _ _ [x / 2 ^ (56 - 8 * j) % 256] rfl (one_holds wr _ (by omega)) ?d0 ?d1 ?_)
          case d0 => simp; omega
          case d1 => have := HSz.out.1; simp; omega
          intro v2 w2 ho hg
          have hbel : Below B _ w2 := below_row_grown (F2.out.alloc HSz.out.1 _) (by have := HSz.out.1; simp; omega) (F1.out.alloc _) hg
          obtain ⟨L2, hL2⟩ : ∃ L2, L2 = L + 1 := ⟨_, rfl⟩
          have ho2 : w2.ownsRow B 5 1 v2 L2 (bv (p0 ++ (be64 x).take (j + 1))) := by
            rw [HT.out, ← List.append_assoc, hL2]
            simpa using ho
          obtain ⟨a2, c2, rfl⟩ := row_slice ho2
          have HO2 := Kp.mk ho2
          have HB2 := Kp.mk hbel
          have HL2 : Kp (L2 = N + (j + 1)) := ⟨by have := HL.out; omega⟩
          clear ho hg hbel ho2 hL2
          go_wp2_with fail
          exact ⟨⟨j + 1, L2, a2, c2, by omega, by go_num, rfl, HL2, HO2.out, HB2.out⟩, by simp [intOf]; omega⟩
        · have HJ : Kp (j = 8) := ⟨by omega⟩
          have hge : 8 ≤ (j : Int) := by omega
          have HX : Kp (wr.ownsRow B 5 1 (.slice a8 L c8) L (bv (prfB k n (ns.take (i + 1))))) := ⟨by
            have h := F1.out
            rw [HJ.out, List.take_of_length_le (by rw [be64_len]; omega)] at h
            rw [HST.out]
            exact h⟩
          have HG1 := Kp.mk (G1.out.upto F2.out (by have := HSz.out.2; have := HB.out; omega))
          have HG2 := Kp.mk (G2.out.upto F2.out (by have := HB.out; omega))
          have HG4 : Kp (Below A w wr) := ⟨G4.out.trans (F2.out.mono HSz.out.2)⟩
          have HL2 : Kp (L = 2 + 8 * (i + 1)) := ⟨by have := HL.out; have := HJ.out; have := HNN.out; omega⟩
          clear hl8 hj
          go_wp2_with fail
          exact ⟨⟨i + 1, L, a8, c8, by omega, by go_num, rfl, HL2, HG1.out, HG2.out, HX.out, HG4.out⟩, by simp [intOf]; omega⟩
    · have hge : (n : Int) ≤ i := by omega
      have HI : Kp (ns.take i = ns) := ⟨List.take_of_length_le (by have := HN.out; omega)⟩
      have HSz : Kp (B ≤ wr.heap.size ∧ A ≤ B) := ⟨by have := G2.out.lt; have := HB.out; omega, by have := HB.out; omega⟩
      have HO : Kp (HoldsB wr wr.heap.size (.slice a7 N c7) (prfB k n ns)) := ⟨by
        have h := G3.out
        rw [HI.out] at h
        have e : N = (prfB k n ns).length := by rw [prfB_len, HN.out]; have := HNN.out; omega
        have h2 := HoldsB.ofRow (prfB_bytes k n ns HK8.out) (by rw [e] at h; exact h)
        rw [e]
        exact h2⟩
      have HSd : Kp (HoldsB wr wr.heap.size (.slice (some ⟨A, 0, none⟩) 32 32) s) := ⟨by
        have h := HoldsB.ofBytes G1.out HSB.out (by rw [HS.out]; decide)
        rw [HS.out] at h
        exact h⟩
      have HKw : Kp (KonIs wr) := ⟨HK.out.keep (by rw [← HA.out]; exact G4.out)⟩
      have hsl := slice118_all A
      clear hlt hi
      go_wp2_with fail
      clear hsl
      refine (tag_any _ _ _ _ s (prfB k n ns) wr HKw.out HSd.out HO.out (by rw [HS.out]; omega) (by rw [prfB_len, HN.out]; omega)).mono ?_
      rintro r w3 ⟨rfl, h3⟩
      have HR3 := Kp.mk (G2.out.keep h3)
      have HB3 : Kp (Below A w w3) := ⟨G4.out.trans (h3.mono (by have := HSz.out; omega))⟩
      have HD := Kp.mk (halfL_len (macL_len s (prfB k n ns)))
      clear h3
      obtain ⟨d, hd⟩ : ∃ d, d = halfL (macL s (prfB k n ns)) := ⟨_, rfl⟩
      rw [← hd] at HD ⊢
      have HC := Kp.mk (cells50 HD.out)
      have HZ := Kp.mk (size50 HD.out)
      have HF := Kp.mk (HR3.out.setRow d)
      have HBf := Kp.mk (Below.row HB3.out (g := A + 1) (by omega) (kv .u8 d).toArray)
      have HDD := Kp.mk hd
      clear hd
      go_wp2_with (refine wpList_store_row rfl 27 (.tmp 6) (.tmp 38) rfl (A + 1) (kv .u8 d).toArray rfl rfl 27 _ HR3.out HC.out HZ.out (kv_all _ _) ?_)
      refine bodyPost_ret (v := .agg (kv .u8 d).toArray) ?_ rfl ⟨by rw [HDD.out], by rw [← HA.out]; exact HBf.out⟩
      exact results_cell_row rfl _ _ (A + 1) 27 _ (0, 0) _ rfl HF.out Tryd.underlying27 rfl HC.out
end Go.Proofs.YtpljjmdkagbjpaaDoor

namespace Go.Proofs.YtpljjmdkagbjpaaDoor
open Go.RowKit

theorem slice37_all (b : Nat) (w : World) : (Instr.sliceAt 35 (.pointer (some ⟨b, 0, none⟩)) none none none).run Tryd.prog w = .ok (.slice (some ⟨b, 0, none⟩) 32 32) w := slice24_all b w
set_option maxRecDepth 100000 in
set_option maxHeartbeats 1000000 in
theorem rprf_any (s : List Int) (k : Int) (n cap : Nat) (a : Option Addr) (ns : List Int) (w : World) (hs : s.length = 32) (hsb : Bytes s) (hk8 : 0 ≤ k ∧ k ≤ 255) (hn : ns.length = n) (hq : HoldsQ w a ns) (hlen : 8 * n ≤ 140737488351232) :
    Calls Tryd.prog 75 #[.agg (kv .u8 s).toArray, .int .u8 k, .slice a n cap] w fun r w' => r = .returned (.agg (kv .u8 (halfL (macL s (prfB k n ns)))).toArray) ∧ Below w.heap.size w w' := by
  have HS := Kp.mk hs
  have HSB := Kp.mk hsb
  have HK8 := Kp.mk hk8
  have HN := Kp.mk hn
  have HQ := Kp.mk hq
  clear hs hsb hn hq
  have k0 := hk8.1
  have k1 := hk8.2
  clear hk8
  have hm : IntKind.i64.wrap ((n : Int).tmod 256) = (n : Int) % 256 := by rw [Int.tmod_eq_emod_of_nonneg (by omega)]; exact IntWalk.i64_in _ (by omega)
  go_enter Tryd.func75, Tryd.ntmps75
  go_wp2_with fail
  obtain ⟨A, hA⟩ : ∃ A, A = w.heap.size := ⟨_, rfl⟩
  have HA := Kp.mk hA
  rw [← hA]
  refine wp_world (fun W => Row W A 35 .u8 s ∧ Row W (A + 1) 25 .u8 (fill 16 []) ∧ W.ownsRow (A + 1 + 1) 5 1 (.slice (some ⟨A + 1 + 1, 0, none⟩) 2 2) 2 (bv (prfB k n [])) ∧ Below A w W)
    ⟨Blk.old (Blk.old (Blk.newAt _ hA) _) _, Blk.old (Blk.newAt _ (by simp [hA])) _, ?_, by rw [hA]; exact more (more (more (Below.refl _ _) _) _) _⟩ ?_
  · have h := ownsRow_two ((w.alloc (.cells (kv .u8 s).toArray 35)).alloc z49) k ((n : Int) % 256)
    have e : ((w.alloc (.cells (kv .u8 s).toArray 35)).alloc z49).heap.size = A + 1 + 1 := by simp [hA]
    rw [e] at h
    exact h
  generalize hB : A + 1 + 1 = B
  have HB := Kp.mk hB
  clear hA hB hm
  rintro W ⟨h1, h2, h3, h4⟩
  have G1 := Kp.mk h1
  have G2 := Kp.mk h2
  have G3 := Kp.mk h3
  have G4 := Kp.mk h4
  clear h1 h2 h3 h4
  go_loopw [7, 8] (fun s7 c wr => ∃ (i N : Nat) (a7 : Option Addr) (c7 : Nat), i ≤ n ∧ c = .int .i64 i ∧ s7 = .slice a7 N c7 ∧ Kp (N = 2 + 8 * i) ∧ Row wr A 35 .u8 s ∧ Row wr (A + 1) 25 .u8 (fill 16 []) ∧ wr.ownsRow B 5 1 (.slice a7 N c7) N (bv (prfB k n (ns.take i))) ∧ Below A w wr) (fun _ c _ => n - (intOf c).toNat)
  case atStart => exact ⟨0, 2, _, _, by omega, rfl, rfl, ⟨rfl⟩, G1.out, G2.out, by rw [List.take_zero]; exact G3.out, G4.out⟩
  case round =>
    obtain ⟨i, N, a7, c7, hi, rfl, rfl, HNN, h1, h2, h3, h4⟩ := hrel
    clear G1 G2 G3 G4
    have G1 := Kp.mk h1
    have G2 := Kp.mk h2
    have G3 := Kp.mk h3
    have G4 := Kp.mk h4
    clear h1 h2 h3 h4
    have HSz : Kp (B ≤ wr.heap.size ∧ A ≤ B) := ⟨by have := G2.out.lt; have := HB.out; omega, by have := HB.out; omega⟩
    by_cases hlt : i < n
    · obtain ⟨b, off, rfl, hbw, hcell⟩ := HQ.out.2 i (by rw [HN.out]; exact hlt)
      have cw : wr.cell? ⟨b, off + i, none⟩ = some (.int .u64 (ns.getD i 0)) := (World.cell?_of_block (w := w) (a := ⟨b, off + i, none⟩) (G4.out.block b (by rw [HA.out]; exact hbw))).trans hcell
      have hx : 0 ≤ ns.getD i 0 ∧ ns.getD i 0 < 18446744073709551616 := by
        rw [List.getD_eq_getElem?_getD, List.getElem?_eq_getElem (by rw [HN.out]; exact hlt)]
        exact HQ.out.1 _ (List.getElem_mem _)
      have HST := Kp.mk (prfB_take k n ns i (by rw [HN.out]; exact hlt))
      have HX := Kp.mk hx
      clear hcell hx
      generalize ns.getD i 0 = x at *
      generalize hP : prfB k n (ns.take i) = p0 at *
      have HP := Kp.mk hP
      clear hP
      have hNb : N ≤ 140737488352000 := by have := HNN.out; omega
      go_wp2_with fail
      clear cw
      refine (num_any x 8 wr (Or.inr rfl) HX.out.1 HX.out.2).mono ?_
      rintro r w1 ⟨v1, rfl, h5, h6⟩
      have F1 := Kp.mk h5
      have F2 := Kp.mk h6
      have FO := Kp.mk (ownsRow_below G3.out h6)
      have HS1 : Kp (B ≤ w1.heap.size) := ⟨Nat.le_trans HSz.out.1 h6.size⟩
      clear h5 h6
      go_wp2_with (at_builtin; refine wpList_append_holds rfl _ _ rfl B _ _ _ rfl FO.out _ _ (numL x 8) rfl F1.out ?d0 ?d1 ?_)
      case d0 => rw [numL_len]; omega
      case d1 => exact HS1.out
      intro v2 w2 ho hg
      have hbel : Below B wr w2 := (F2.out.mono HSz.out.1).trans (below_row_grown (Below.refl _ _) HS1.out FO.out hg)
      obtain ⟨L2, hL2⟩ : ∃ L2, L2 = N + 8 := ⟨_, rfl⟩
      have ho2 : w2.ownsRow B 5 1 v2 L2 (bv (prfB k n (ns.take (i + 1)))) := by
        rw [HST.out, hL2]
        rw [numL_len, numL_eight] at ho
        simpa using ho
      obtain ⟨a2, c2, rfl⟩ := row_slice ho2
      have HO2 := Kp.mk ho2
      have HL2 : Kp (L2 = 2 + 8 * (i + 1)) := ⟨by have := HNN.out; omega⟩
      have HG1 := Kp.mk (G1.out.upto hbel (by have := HSz.out.2; have := HB.out; omega))
      have HG2 := Kp.mk (G2.out.upto hbel (by have := HB.out; omega))
      have HG4 : Kp (Below A w w2) := ⟨G4.out.trans (hbel.mono HSz.out.2)⟩
      clear ho hg hbel ho2 hL2
      go_wp2_with fail
      exact ⟨⟨i + 1, L2, a2, c2, by omega, by go_num, rfl, HL2, HG1.out, HG2.out, HO2.out, HG4.out⟩, by simp [intOf]; omega⟩
    · have hge : (n : Int) ≤ i := by omega
      have HI : Kp (ns.take i = ns) := ⟨List.take_of_length_le (by have := HN.out; omega)⟩
      have HO : Kp (HoldsB wr wr.heap.size (.slice a7 N c7) (prfB k n ns)) := ⟨by
        have h := G3.out
        rw [HI.out] at h
        have e : N = (prfB k n ns).length := by rw [prfB_len, HN.out]; have := HNN.out; omega
        have h2 := HoldsB.ofRow (prfB_bytes k n ns HK8.out) (by rw [e] at h; exact h)
        rw [e]
        exact h2⟩
      have HSd : Kp (HoldsB wr wr.heap.size (.slice (some ⟨A, 0, none⟩) 32 32) s) := ⟨by
        have h := HoldsB.ofBytes G1.out HSB.out (by rw [HS.out]; decide)
        rw [HS.out] at h
        exact h⟩
      have hsl := slice37_all A
      clear hlt hi
      go_wp2_with fail
      clear hsl
      refine (rtag_any _ _ _ _ s (prfB k n ns) wr HSd.out HO.out (by rw [HS.out]; omega) (by rw [prfB_len, HN.out]; omega)).mono ?_
      rintro r w3 ⟨rfl, h3⟩
      have HR3 := Kp.mk (G2.out.keep h3)
      have HB3 : Kp (Below A w w3) := ⟨G4.out.trans (h3.mono (by have := HSz.out; omega))⟩
      have HD := Kp.mk (halfL_len (macL_len s (prfB k n ns)))
      clear h3
      obtain ⟨d, hd⟩ : ∃ d, d = halfL (macL s (prfB k n ns)) := ⟨_, rfl⟩
      rw [← hd] at HD ⊢
      have HC := Kp.mk (cells49 HD.out)
      have HZ := Kp.mk (size50 HD.out)
      have HF := Kp.mk (HR3.out.setRow d)
      have HBf := Kp.mk (Below.row HB3.out (g := A + 1) (by omega) (kv .u8 d).toArray)
      have HDD := Kp.mk hd
      clear hd
      go_wp2_with (refine wpList_store_row rfl 25 (.tmp 6) (.tmp 30) rfl (A + 1) (kv .u8 d).toArray rfl rfl 25 _ HR3.out HC.out HZ.out (kv_all _ _) ?_)
      refine bodyPost_ret (v := .agg (kv .u8 d).toArray) ?_ rfl ⟨by rw [HDD.out], by rw [← HA.out]; exact HBf.out⟩
      exact results_cell_row rfl _ _ (A + 1) 25 _ (0, 0) _ rfl HF.out Tryd.underlying25 rfl HC.out
end Go.Proofs.YtpljjmdkagbjpaaDoor
