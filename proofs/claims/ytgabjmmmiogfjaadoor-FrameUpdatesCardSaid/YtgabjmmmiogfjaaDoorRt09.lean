/-
  The document's Mac.
  Sums held against each other.
  The document's Tag; the law MacTags, walked.
  As FlowQ, where besides two values may stand to each other as T asks (what one operation makes stands apart from what another one holds, whichever came first).
  A new array of 68 bytes.
  Arguments that came in: an array of bytes by value; a slice of numbers of 64 bits.
  What the listed variable holds gives the walks: the standard's constants. The door's own heap meets the condition.
-/
import Derived.Test.YtgabjmmmiogfjaaDoorRt08
import Derived.Stop.BytesEq
import Derived.Great.Walk
import Derived.OpenShut
import Derived.SizedLaws
import Derived.Test.YtgabjmmmiogfjaaDoorRows
import Derived.ProofKit
import Derived.LaidMore
import Derived.Stop.Joined
namespace Go.Proofs.YtgabjmmmiogfjaaDoor
open Go.RowKit

theorem size32 {l : List Int} (h : l.length = 32) : (kv .u8 (fill 32 [])).toArray.size = (kv .u8 l).toArray.size := by rw [kv_size, kv_size, h]; rfl
set_option maxRecDepth 100000 in
theorem slice24_all (b : Nat) (w : World) : (Instr.sliceAt 22 (.pointer (some ⟨b, 0, none⟩)) none none none).run Tryd.prog w = .ok (.slice (some ⟨b, 0, none⟩) 32 32) w := by
  have hl : Tryd.prog.arrayLen 22 = 32 := by kernel_rfl
  have he : Tryd.prog.elem 22 = 5 := by kernel_rfl
  rw [run_sliceAt_array_all (ht := Tryd.underlying22), hl, he, size5]
  rfl
set_option maxRecDepth 100000 in
set_option maxHeartbeats 2000000 in
theorem rmac_any (M N : Nat) (v u : Value) (k p : List Int) (w : World) (hp : HoldsB w M v k) (hq : HoldsB w N u p) (hlen : k.length ≤ 140737488351232) (hlen2 : p.length ≤ 140737488351300) :
    Calls Tryd.prog 78 #[v, u] w fun r w' => r = .returned (.agg (kv .u8 (macL k p)).toArray) ∧ Below w.heap.size w w' := by
  obtain ⟨a0, n, cap, rfl, hn⟩ := hp.slice
  have HP := Kp.mk hp
  have HQ := Kp.mk hq
  have HL := Kp.mk hlen
  have HL2 := Kp.mk hlen2
  have HN := Kp.mk hn
  have HKL := Kp.mk (keyb_len k)
  have hnm : n ≤ 140737488351232 := by omega
  obtain ⟨A, hA⟩ : ∃ A, A = w.heap.size := ⟨_, rfl⟩
  have HA := Kp.mk hA
  clear hp hq hlen hlen2
  by_cases hbig : 64 < n
  · have HBIG : Kp (keyb k = fill 64 (digest k)) := ⟨keyb_big (by omega)⟩
    have HDL := Kp.mk (digest_len k)
    have HCD := Kp.mk (cells24 (digest_len k))
    have HZD := Kp.mk (size32 (digest_len k))
    clear hn
    go_enter Tryd.func78, Tryd.ntmps78
    go_wp2_with fail
    rw [← hA]
    refine calls_world (fun W => Row W A 22 .u8 (fill 32 []) ∧ Row W (A + 1) 159 .u8 (fill 64 []) ∧ Below A w W) ⟨Row.alloc (Blk.newAt (w := w) z24 hA) _, Blk.newAt (w := w.alloc z24) z75 (by rw [hA]; simp), by rw [hA]; exact more (more (Below.refl _ _) z24) z75⟩ ?_
    rintro w1 ⟨hr, hr1, hb⟩
    have HR := Kp.mk hr
    have HR1 := Kp.mk hr1
    have HB := Kp.mk hb
    clear hr hr1 hb hA
    refine (rsum_any M _ k w1 (HP.out.keep (by rw [← HA.out]; exact HB.out)) (by have := HL.out; omega)).mono ?_
    rintro r w2 ⟨rfl, h2⟩
    have HR2 := Kp.mk (HR.out.keep h2)
    have HR3 := Kp.mk (HR1.out.keep h2)
    have HB2 : Kp (Below A w w2) := ⟨HB.out.trans (h2.mono (Nat.le_of_lt HR.out.lt))⟩
    clear h2
    generalize digest k = d at *
    obtain ⟨D, hD⟩ : ∃ D, D = w2.heap.size := ⟨_, rfl⟩
    have HADl : Kp (A + 1 < D) := ⟨by rw [hD]; exact HR3.out.lt⟩
    go_wp2_with (refine wpList_store_row rfl 22 (.tmp 6) (.tmp 17) rfl w2.heap.size (kv .u8 d).toArray rfl rfl 22 _ (Blk.new w2 z24) HCD.out HZD.out (kv_all _ _) ?_)
    rw [← hD]
    refine wp_world (fun W => Row W D 22 .u8 d ∧ Row W (A + 1) 159 .u8 (fill 64 (d.take 0)) ∧ Row W A 22 .u8 (fill 32 []) ∧ Below A w W) ⟨Row.setRow (k := .u8) (l := fill 32 []) (Blk.newAt z24 hD) _, Row.otherRow (HR3.out.alloc z24) (by have := HADl.out; omega) _, Row.otherRow (HR2.out.alloc z24) (by have := HADl.out; omega) _, Below.row (HB2.out.alloc (Nat.le_of_lt HR2.out.lt) z24) (by have := HADl.out; omega) _⟩ ?_
    rintro w3 ⟨h1, h2, h3, h4⟩
    have J1 := Kp.mk h1
    have J2 := Kp.mk h2
    have J3 := Kp.mk h3
    have J4 := Kp.mk h4
    clear h1 h2 h3 h4 hD
    go_loopw [7] (fun c wr => ∃ i : Nat, i ≤ 32 ∧ c = .int .i64 i ∧ Row wr D 22 .u8 d ∧ Row wr (A + 1) 159 .u8 (fill 64 (d.take i)) ∧ Row wr A 22 .u8 (fill 32 []) ∧ Below A w wr) (fun c _ => 32 - (intOf c).toNat)
    case atStart => exact ⟨0, by omega, rfl, J1.out, J2.out, J3.out, J4.out⟩
    case round =>
      obtain ⟨i, hi, rfl, h1, h2, h3, h4⟩ := hrel
      have G1 := Kp.mk h1
      have G2 := Kp.mk h2
      have G3 := Kp.mk h3
      have G4 := Kp.mk h4
      clear h1 h2 h3 h4 J1 J2 J3 J4
      by_cases hlt : i < 32
      · have c1 := G1.out.cell (i := i) (by rw [HDL.out]; exact hlt)
        have c2 := G2.out.cell (i := i) (by rw [fill_len (by rw [List.length_take]; omega)]; omega)
        have f2 := G2.out.frozen i
        have HS := Kp.mk (fill_take (n := 64) (l := d) (i := i) (by rw [HDL.out]; omega) (by omega))
        generalize d.getD i 0 = x at *
        go_wp2_with fail
        exact ⟨⟨i + 1, by omega, by go_num, G1.out.other (by show A + 1 ≠ D; have := HADl.out; omega) _, (G2.out.set i _).as HS.out, G3.out.other (by show A + 1 ≠ A; omega) _, G4.out.setCell (by show A ≤ A + 1; omega) _⟩, by simp [intOf]; omega⟩
      · have HI : Kp (i = 32) := ⟨by omega⟩
        have hge : 32 ≤ (i : Int) := by omega
        have L2 : Kp (Row wr (A + 1) 159 .u8 (keyb k)) := ⟨by
          have h := G2.out
          rw [HI.out, List.take_of_length_le (by rw [HDL.out]; exact Nat.le_refl _)] at h
          rw [HBIG.out]
          exact h⟩
        have L1 := G3
        have L3 := G4
        clear hlt hi G1 G2
        go_wp2_with fail
        go_loopw [9, 10, 11] (fun s9 s10 c wr => ∃ (j : Nat) (a9 a10 : Option Addr) (c9 c10 : Nat), j ≤ 64 ∧ s9 = .slice a9 j c9 ∧ s10 = .slice a10 j c10 ∧ c = .int .i64 j ∧ Kp (Twin wr (A + 2) (.slice a9 j c9) (.slice a10 j c10) j j (over ((keyb k).take j) 54) (over ((keyb k).take j) 92)) ∧ Row wr (A + 1) 159 .u8 (keyb k) ∧ Row wr A 22 .u8 (fill 32 []) ∧ Below A w wr) (fun _ _ c _ => 64 - (intOf c).toNat)
        case atStart => exact ⟨0, none, none, 0, 0, by omega, rfl, rfl, rfl, ⟨⟨World.ownsRow_nil _ _ _ _, World.ownsRow_nil _ _ _ _, fun g h => by simp [Value.ownBlock] at h⟩⟩, L2.out, L1.out, L3.out⟩
        case round =>
          obtain ⟨j, a9, a10, c9, c10, hj, rfl, rfl, rfl, HT, h1, h2, h3⟩ := hrel
          have G1 := Kp.mk h1
          have G2 := Kp.mk h2
          have G3 := Kp.mk h3
          clear h1 h2 h3 L1 L2 L3
          by_cases hlt : j < 64
          · have c1 := G1.out.cell (i := j) (by rw [keyb_len]; exact hlt)
            have HO1 := Kp.mk (over_succ (l := keyb k) (j := j) (by rw [keyb_len]; exact hlt) 54)
            have HO2 := Kp.mk (over_succ (l := keyb k) (j := j) (by rw [keyb_len]; exact hlt) 92)
            obtain ⟨y, hy⟩ : ∃ y, (keyb k).getD j 0 = y := ⟨_, rfl⟩
            rw [hy] at c1 HO1 HO2
            go_wp2_with (at_builtin; refine wpList_append_holds2 rfl _ _ rfl (A + 2) _ _ _ rfl (HT.out.one.alloc _) _ _ [bits .xor .u8 y 54] rfl (one_holds wr _ (bits_u8r _ _ _)) ?e0 ?e1 ?_)
            case e0 => simp; omega
            case e1 => have := G1.out.lt; simp; omega
            intro v1 w1 ho hg hw
            have HT1 := Kp.mk ((HT.out.alloc _).step (p := [bits .xor .u8 y 54]) ho hg (fun g e => by rw [World.size_alloc]; exact hw g e))
            have hbel : Below (A + 2) wr w1 := below_row_grown ((Below.refl _ _).alloc (by have := G1.out.lt; omega) _) (by have := G1.out.lt; simp; omega) (HT.out.one.alloc _) hg
            obtain ⟨b9, d9, rfl⟩ := row_slice HT1.out.one
            have F1 := Kp.mk (G1.out.upto hbel (by omega))
            have F2 := Kp.mk (G2.out.upto hbel (by omega))
            have F3 : Kp (Below A w w1) := ⟨G3.out.trans (hbel.mono (by omega))⟩
            have c2 := F1.out.cell (i := j) (by rw [keyb_len]; exact hlt)
            have HY : Kp ((keyb k).getD j 0 = y) := ⟨hy⟩
            rw [HY.out] at c2
            rw [← HO1.out] at HT1
            simp only [List.length_cons, List.length_nil, Nat.zero_add] at HT1
            clear ho hg hw hbel c1 HT G1 G2 G3 hy
            go_wp2_with (at_builtin; refine wpList_append_holds2 rfl _ _ rfl (A + 2) _ _ _ rfl (HT1.out.two.alloc _) _ _ [bits .xor .u8 y 92] rfl (one_holds w1 _ (bits_u8r _ _ _)) ?g0 ?g1 ?_)
            case g0 => simp; omega
            case g1 => have := F1.out.lt; simp; omega
            intro v2 w4 ho hg hw
            have HT2 := Kp.mk ((HT1.out.swap.alloc _).step (p := [bits .xor .u8 y 92]) ho hg (fun g e => by rw [World.size_alloc]; exact hw g e))
            have hbel : Below (A + 2) w1 w4 := below_row_grown ((Below.refl _ _).alloc (by have := F1.out.lt; omega) _) (by have := F1.out.lt; simp; omega) (HT1.out.two.alloc _) hg
            obtain ⟨b10, d10, rfl⟩ := row_slice HT2.out.one
            have K1 := Kp.mk (F1.out.upto hbel (by omega))
            have K2 := Kp.mk (F2.out.upto hbel (by omega))
            have K3 : Kp (Below A w w4) := ⟨F3.out.trans (hbel.mono (by omega))⟩
            rw [← HO2.out] at HT2
            simp only [List.length_cons, List.length_nil, Nat.zero_add] at HT2
            clear ho hg hw hbel c2 HT1 F1 F2 F3
            go_wp2_with fail
            exact ⟨⟨j + 1, b9, b10, d9, d10, by omega, rfl, rfl, by go_num, ⟨HT2.out.swap⟩, K1.out, K2.out, K3.out⟩, by simp [intOf]; omega⟩
          · obtain rfl : j = 64 := by omega
            have HT4 : Kp (Twin wr (A + 2) (.slice a9 64 c9) (.slice a10 64 c10) 64 64 (over (keyb k) 54) (over (keyb k) 92)) := by
              have h := HT.out
              rw [List.take_of_length_le (by rw [keyb_len]; exact Nat.le_refl _)] at h
              exact ⟨h⟩
            have HE : Kp (macL k p = digest (over (keyb k) 92 ++ digest (over (keyb k) 54 ++ p))) := ⟨rfl⟩
            have HOL : Kp (∀ x, (over (keyb k) x).length = 64) := ⟨fun x => by rw [over_len, keyb_len]⟩
            have HOB : Kp (∀ x, Bytes (over (keyb k) x)) := ⟨fun x => over_bytes _ x⟩
            have HQr : Kp (HoldsB wr N u p) := ⟨HQ.out.keep (by rw [← HA.out]; exact G3.out)⟩
            have HLe := Kp.mk G1.out.lt
            clear HT hj hlt
            obtain ⟨R, hR⟩ : ∃ R, R = macL k p := ⟨_, rfl⟩
            rw [← hR] at HE
            have HRR := Kp.mk hR
            clear hR
            generalize keyb k = B at *
            go_wp2_with (at_builtin; refine wpList_append_holds2 rfl _ _ rfl (A + 2) _ _ _ rfl HT4.out.one _ _ p rfl HQr.out ?k0 ?k1 ?_)
            case k0 => have := HL2.out; omega
            case k1 => have := HLe.out; omega
            intro v3 w5 ho hg hw
            have HT5 := Kp.mk (HT4.out.step (p := p) ho hg hw)
            have hbel : Below (A + 2) wr w5 := below_row_grown (Below.refl _ _) (by have := HLe.out; omega) HT4.out.one hg
            have K2 := Kp.mk (G2.out.upto hbel (by omega))
            have K3 : Kp (Below A w w5) := ⟨G3.out.trans (hbel.mono (by omega))⟩
            have HV3 : Kp (HoldsB w5 w5.heap.size v3 (over B 54 ++ p)) := ⟨HoldsB.ofRow ((HOB.out 54).append HQr.out.bytes) (by rw [List.length_append, HOL.out]; exact HT5.out.one)⟩
            have HS5 : Kp (A + 1 < w5.heap.size) := ⟨by have := HLe.out; have := hbel.size; omega⟩
            clear ho hg hw hbel HT4 G1 G2 G3
            go_wp2_with fail
            refine (rsum_any _ v3 (over B 54 ++ p) w5 HV3.out (by rw [List.length_append, HOL.out]; have := HL2.out; omega)).mono ?_
            rintro r w6 ⟨rfl, h6⟩
            have P2 := Kp.mk (K2.out.keep h6)
            have P3 : Kp (Below A w w6) := ⟨K3.out.trans (h6.mono (Nat.le_of_lt K2.out.lt))⟩
            have P4 := Kp.mk (ownsRow_below HT5.out.two h6)
            have HS6 : Kp (A + 1 < w6.heap.size) := ⟨by have := HS5.out; have := h6.size; omega⟩
            have HIL := Kp.mk (digest_len (over B 54 ++ p))
            have HIB := Kp.mk (digest_bytes (over B 54 ++ p))
            clear h6 K2 K3 HV3 HT5
            generalize digest (over B 54 ++ p) = I at *
            have HCI := Kp.mk (cells24 HIL.out)
            have HZI := Kp.mk (size32 HIL.out)
            obtain ⟨E, hEe⟩ : ∃ E, E = w6.heap.size := ⟨_, rfl⟩
            obtain ⟨W, hW⟩ : ∃ W, W = (w6.alloc z24).setRow E (kv .u8 I).toArray := ⟨_, rfl⟩
            have S1 : Kp (Row W E 22 .u8 I) := ⟨by rw [hW]; exact Row.setRow (k := .u8) (l := fill 32 []) (Blk.newAt z24 hEe) _⟩
            have S2 : Kp (Row W A 22 .u8 (fill 32 [])) := ⟨by rw [hW]; exact Row.otherRow (P2.out.alloc z24) (by have := P2.out.lt; omega) _⟩
            have S3 : Kp (Below A w W) := ⟨by rw [hW]; exact Below.row (P3.out.alloc (Nat.le_of_lt P2.out.lt) z24) (by have := P2.out.lt; omega) _⟩
            have S4 : Kp (W.ownsRow (A + 2) 5 1 (.slice a10 64 c10) 64 (bv (over B 92))) := ⟨by
              rw [hW]
              refine (P4.out.alloc z24).kept (row := some E) (Turn.grown (Turn.row (Turn.same (Blk.newAt z24 hEe)) _)) (Or.inr fun e => ?_)
              have := (P4.out.lt E e).2
              omega⟩
            have HH : Kp (HoldsB W W.heap.size (.slice (some ⟨E, 0, none⟩) 32 32) I) := ⟨by
              have h := HoldsB.ofBytes S1.out HIB.out (by rw [HIL.out]; decide)
              rw [HIL.out] at h
              exact h⟩
            have HSz : Kp (A + 2 ≤ W.heap.size) := ⟨by have := HS6.out; rw [hW]; simp [World.setRow]; omega⟩
            have hs := slice24_all
            subst hEe
            go_wp2_with (first
              | (refine wpList_store_row rfl 22 (.tmp 12) (.tmp 60) rfl w6.heap.size (kv .u8 I).toArray rfl rfl 22 _ (Blk.new w6 z24) HCI.out HZI.out (kv_all _ _) ?_; refine wpl_world (· = W) hW.symm ?_; clear hW; intro W0 e; rw [e]; clear e)
              | (at_builtin; refine wpList_append_holds2 rfl _ _ rfl (A + 2) _ _ _ rfl S4.out _ _ I rfl HH.out ?m0 ?m1 ?_))
            case m0 => rw [HIL.out]; omega
            case m1 => exact HSz.out
            intro v4 w7 ho hg hw
            have ho2 : w7.ownsRow (A + 2) 5 1 v4 (over B 92 ++ I).length (bv (over B 92 ++ I)) := by
              rw [List.length_append, HOL.out, show bv (over B 92 ++ I) = bv (over B 92) ++ bv I by simp]
              exact ho
            have hbel : Below (A + 2) W w7 := below_row_grown (Below.refl _ _) HSz.out S4.out hg
            have T2 := Kp.mk (S2.out.upto hbel (by omega))
            have T3 : Kp (Below A w w7) := ⟨S3.out.trans (hbel.mono (by omega))⟩
            have HV4 : Kp (HoldsB w7 w7.heap.size v4 (over B 92 ++ I)) := ⟨HoldsB.ofRow ((HOB.out 92).append HIB.out) ho2⟩
            clear ho hg hw hbel ho2 hs
            go_wp2_with fail
            refine (rsum_any _ v4 (over B 92 ++ I) w7 HV4.out (by rw [List.length_append, HOL.out, HIL.out]; omega)).mono ?_
            rintro r w8 ⟨rfl, h8⟩
            have U2 := Kp.mk (T2.out.keep h8)
            have U3 : Kp (Below A w w8) := ⟨T3.out.trans (h8.mono (Nat.le_of_lt T2.out.lt))⟩
            rw [← HE.out]
            have HRL : Kp (R.length = 32) := ⟨by rw [HE.out]; exact digest_len _⟩
            have HCR := Kp.mk (cells24 HRL.out)
            have HZR := Kp.mk (size32 HRL.out)
            have HF := Kp.mk (U2.out.setRow R)
            have HBf := Kp.mk (Below.row U3.out (g := A) (Nat.le_refl _) (kv .u8 R).toArray)
            clear h8
            go_wp2_with (refine wpList_store_row rfl 22 (.tmp 4) (.tmp 64) rfl A (kv .u8 R).toArray rfl rfl 22 _ U2.out HCR.out HZR.out (kv_all _ _) ?_)
            refine bodyPost_ret (v := .agg (kv .u8 R).toArray) ?_ rfl ⟨by rw [HRR.out], by rw [← HA.out]; exact HBf.out⟩
            exact results_cell_row rfl _ _ A 22 _ (0, 0) _ rfl HF.out Tryd.underlying22 rfl HCR.out
  · have HSM : Kp (keyb k = fill 64 k) := ⟨keyb_small (by omega)⟩
    have hle : n ≤ 64 := by omega
    clear hn hbig
    go_enter Tryd.func78, Tryd.ntmps78
    go_wp2_with fail
    rw [← hA]
    refine wp_world (fun W => Row W A 22 .u8 (fill 32 []) ∧ Row W (A + 1) 159 .u8 (fill 64 (k.take 0)) ∧ Below A w W) ⟨Row.alloc (Blk.newAt (w := w) z24 hA) _, Blk.newAt (w := w.alloc z24) z75 (by rw [hA]; simp), by rw [hA]; exact more (more (Below.refl _ _) z24) z75⟩ ?_
    rintro w1 ⟨hr, hr1, hb⟩
    have J1 := Kp.mk hr
    have J2 := Kp.mk hr1
    have J3 := Kp.mk hb
    clear hr hr1 hb hA
    go_loopw [8] (fun c wr => ∃ i : Nat, i ≤ n ∧ c = .int .i64 i ∧ Row wr (A + 1) 159 .u8 (fill 64 (k.take i)) ∧ Row wr A 22 .u8 (fill 32 []) ∧ Below A w wr) (fun c _ => n - (intOf c).toNat)
    case atStart => exact ⟨0, by omega, rfl, J2.out, J1.out, J3.out⟩
    case round =>
      obtain ⟨i, hi, rfl, h2, h3, h4⟩ := hrel
      have G2 := Kp.mk h2
      have G3 := Kp.mk h3
      have G4 := Kp.mk h4
      clear h2 h3 h4 J1 J2 J3
      have hki : n = k.length := HN.out
      by_cases hlt : i < n
      · obtain ⟨b0, off, rfl, -, c1⟩ := (HP.out.keep (by rw [← HA.out]; exact G4.out)).cellAt (i := i) (by omega)
        have c2 := G2.out.cell (i := i) (by rw [fill_len (by rw [List.length_take]; omega)]; omega)
        have f2 := G2.out.frozen i
        have HS := Kp.mk (fill_take (n := 64) (l := k) (i := i) (by omega) (by omega))
        generalize k.getD i 0 = x at *
        clear hki
        go_wp2_with fail
        exact ⟨⟨i + 1, by omega, by go_num, (G2.out.set i _).as HS.out, G3.out.other (by show A + 1 ≠ A; omega) _, G4.out.setCell (by show A ≤ A + 1; omega) _⟩, by simp [intOf]; omega⟩
      · have HI : Kp (i = n) := ⟨by omega⟩
        have hge : (n : Int) ≤ (i : Int) := by omega
        have hge2 : ¬ i < n := by omega
        have hge3 : n ≤ i := by omega
        have L2 : Kp (Row wr (A + 1) 159 .u8 (keyb k)) := ⟨by
          have h := G2.out
          rw [HI.out, List.take_of_length_le (by omega)] at h
          rw [HSM.out]
          exact h⟩
        have L1 := G3
        have L3 := G4
        clear hlt hi G2 hki
        go_wp2_with fail
        go_loopw [9, 10, 11] (fun s9 s10 c wr => ∃ (j : Nat) (a9 a10 : Option Addr) (c9 c10 : Nat), j ≤ 64 ∧ s9 = .slice a9 j c9 ∧ s10 = .slice a10 j c10 ∧ c = .int .i64 j ∧ Kp (Twin wr (A + 2) (.slice a9 j c9) (.slice a10 j c10) j j (over ((keyb k).take j) 54) (over ((keyb k).take j) 92)) ∧ Row wr (A + 1) 159 .u8 (keyb k) ∧ Row wr A 22 .u8 (fill 32 []) ∧ Below A w wr) (fun _ _ c _ => 64 - (intOf c).toNat)
        case atStart => exact ⟨0, none, none, 0, 0, by omega, rfl, rfl, rfl, ⟨⟨World.ownsRow_nil _ _ _ _, World.ownsRow_nil _ _ _ _, fun g h => by simp [Value.ownBlock] at h⟩⟩, L2.out, L1.out, L3.out⟩
        case round =>
          obtain ⟨j, a9, a10, c9, c10, hj, rfl, rfl, rfl, HT, h1, h2, h3⟩ := hrel
          have G1 := Kp.mk h1
          have G2 := Kp.mk h2
          have G3 := Kp.mk h3
          clear h1 h2 h3 L1 L2 L3
          by_cases hlt : j < 64
          · have c1 := G1.out.cell (i := j) (by rw [keyb_len]; exact hlt)
            have HO1 := Kp.mk (over_succ (l := keyb k) (j := j) (by rw [keyb_len]; exact hlt) 54)
            have HO2 := Kp.mk (over_succ (l := keyb k) (j := j) (by rw [keyb_len]; exact hlt) 92)
            obtain ⟨y, hy⟩ : ∃ y, (keyb k).getD j 0 = y := ⟨_, rfl⟩
            rw [hy] at c1 HO1 HO2
            go_wp2_with (at_builtin; refine wpList_append_holds2 rfl _ _ rfl (A + 2) _ _ _ rfl (HT.out.one.alloc _) _ _ [bits .xor .u8 y 54] rfl (one_holds wr _ (bits_u8r _ _ _)) ?e0 ?e1 ?_)
            case e0 => simp; omega
            case e1 => have := G1.out.lt; simp; omega
            intro v1 w1 ho hg hw
            have HT1 := Kp.mk ((HT.out.alloc _).step (p := [bits .xor .u8 y 54]) ho hg (fun g e => by rw [World.size_alloc]; exact hw g e))
            have hbel : Below (A + 2) wr w1 := below_row_grown ((Below.refl _ _).alloc (by have := G1.out.lt; omega) _) (by have := G1.out.lt; simp; omega) (HT.out.one.alloc _) hg
            obtain ⟨b9, d9, rfl⟩ := row_slice HT1.out.one
            have F1 := Kp.mk (G1.out.upto hbel (by omega))
            have F2 := Kp.mk (G2.out.upto hbel (by omega))
            have F3 : Kp (Below A w w1) := ⟨G3.out.trans (hbel.mono (by omega))⟩
            have c2 := F1.out.cell (i := j) (by rw [keyb_len]; exact hlt)
            have HY : Kp ((keyb k).getD j 0 = y) := ⟨hy⟩
            rw [HY.out] at c2
            rw [← HO1.out] at HT1
            simp only [List.length_cons, List.length_nil, Nat.zero_add] at HT1
            clear ho hg hw hbel c1 HT G1 G2 G3 hy
            go_wp2_with (at_builtin; refine wpList_append_holds2 rfl _ _ rfl (A + 2) _ _ _ rfl (HT1.out.two.alloc _) _ _ [bits .xor .u8 y 92] rfl (one_holds w1 _ (bits_u8r _ _ _)) ?g0 ?g1 ?_)
            case g0 => simp; omega
            case g1 => have := F1.out.lt; simp; omega
            intro v2 w4 ho hg hw
            have HT2 := Kp.mk ((HT1.out.swap.alloc _).step (p := [bits .xor .u8 y 92]) ho hg (fun g e => by rw [World.size_alloc]; exact hw g e))
            have hbel : Below (A + 2) w1 w4 := below_row_grown ((Below.refl _ _).alloc (by have := F1.out.lt; omega) _) (by have := F1.out.lt; simp; omega) (HT1.out.two.alloc _) hg
            obtain ⟨b10, d10, rfl⟩ := row_slice HT2.out.one
            have K1 := Kp.mk (F1.out.upto hbel (by omega))
            have K2 := Kp.mk (F2.out.upto hbel (by omega))
            have K3 : Kp (Below A w w4) := ⟨F3.out.trans (hbel.mono (by omega))⟩
            rw [← HO2.out] at HT2
            simp only [List.length_cons, List.length_nil, Nat.zero_add] at HT2
            clear ho hg hw hbel c2 HT1 F1 F2 F3
            go_wp2_with fail
            exact ⟨⟨j + 1, b9, b10, d9, d10, by omega, rfl, rfl, by go_num, ⟨HT2.out.swap⟩, K1.out, K2.out, K3.out⟩, by simp [intOf]; omega⟩
          · obtain rfl : j = 64 := by omega
            have HT4 : Kp (Twin wr (A + 2) (.slice a9 64 c9) (.slice a10 64 c10) 64 64 (over (keyb k) 54) (over (keyb k) 92)) := by
              have h := HT.out
              rw [List.take_of_length_le (by rw [keyb_len]; exact Nat.le_refl _)] at h
              exact ⟨h⟩
            have HE : Kp (macL k p = digest (over (keyb k) 92 ++ digest (over (keyb k) 54 ++ p))) := ⟨rfl⟩
            have HOL : Kp (∀ x, (over (keyb k) x).length = 64) := ⟨fun x => by rw [over_len, keyb_len]⟩
            have HOB : Kp (∀ x, Bytes (over (keyb k) x)) := ⟨fun x => over_bytes _ x⟩
            have HQr : Kp (HoldsB wr N u p) := ⟨HQ.out.keep (by rw [← HA.out]; exact G3.out)⟩
            have HLe := Kp.mk G1.out.lt
            clear HT hj hlt
            obtain ⟨R, hR⟩ : ∃ R, R = macL k p := ⟨_, rfl⟩
            rw [← hR] at HE
            have HRR := Kp.mk hR
            clear hR
            generalize keyb k = B at *
            go_wp2_with (at_builtin; refine wpList_append_holds2 rfl _ _ rfl (A + 2) _ _ _ rfl HT4.out.one _ _ p rfl HQr.out ?k0 ?k1 ?_)
            case k0 => have := HL2.out; omega
            case k1 => have := HLe.out; omega
            intro v3 w5 ho hg hw
            have HT5 := Kp.mk (HT4.out.step (p := p) ho hg hw)
            have hbel : Below (A + 2) wr w5 := below_row_grown (Below.refl _ _) (by have := HLe.out; omega) HT4.out.one hg
            have K2 := Kp.mk (G2.out.upto hbel (by omega))
            have K3 : Kp (Below A w w5) := ⟨G3.out.trans (hbel.mono (by omega))⟩
            have HV3 : Kp (HoldsB w5 w5.heap.size v3 (over B 54 ++ p)) := ⟨HoldsB.ofRow ((HOB.out 54).append HQr.out.bytes) (by rw [List.length_append, HOL.out]; exact HT5.out.one)⟩
            have HS5 : Kp (A + 1 < w5.heap.size) := ⟨by have := HLe.out; have := hbel.size; omega⟩
            clear ho hg hw hbel HT4 G1 G2 G3
            go_wp2_with fail
            refine (rsum_any _ v3 (over B 54 ++ p) w5 HV3.out (by rw [List.length_append, HOL.out]; have := HL2.out; omega)).mono ?_
            rintro r w6 ⟨rfl, h6⟩
            have P2 := Kp.mk (K2.out.keep h6)
            have P3 : Kp (Below A w w6) := ⟨K3.out.trans (h6.mono (Nat.le_of_lt K2.out.lt))⟩
            have P4 := Kp.mk (ownsRow_below HT5.out.two h6)
            have HS6 : Kp (A + 1 < w6.heap.size) := ⟨by have := HS5.out; have := h6.size; omega⟩
            have HIL := Kp.mk (digest_len (over B 54 ++ p))
            have HIB := Kp.mk (digest_bytes (over B 54 ++ p))
            clear h6 K2 K3 HV3 HT5
            generalize digest (over B 54 ++ p) = I at *
            have HCI := Kp.mk (cells24 HIL.out)
            have HZI := Kp.mk (size32 HIL.out)
            obtain ⟨E, hEe⟩ : ∃ E, E = w6.heap.size := ⟨_, rfl⟩
            obtain ⟨W, hW⟩ : ∃ W, W = (w6.alloc z24).setRow E (kv .u8 I).toArray := ⟨_, rfl⟩
            have S1 : Kp (Row W E 22 .u8 I) := ⟨by rw [hW]; exact Row.setRow (k := .u8) (l := fill 32 []) (Blk.newAt z24 hEe) _⟩
            have S2 : Kp (Row W A 22 .u8 (fill 32 [])) := ⟨by rw [hW]; exact Row.otherRow (P2.out.alloc z24) (by have := P2.out.lt; omega) _⟩
            have S3 : Kp (Below A w W) := ⟨by rw [hW]; exact Below.row (P3.out.alloc (Nat.le_of_lt P2.out.lt) z24) (by have := P2.out.lt; omega) _⟩
            have S4 : Kp (W.ownsRow (A + 2) 5 1 (.slice a10 64 c10) 64 (bv (over B 92))) := ⟨by
              rw [hW]
              refine (P4.out.alloc z24).kept (row := some E) (Turn.grown (Turn.row (Turn.same (Blk.newAt z24 hEe)) _)) (Or.inr fun e => ?_)
              have := (P4.out.lt E e).2
              omega⟩
            have HH : Kp (HoldsB W W.heap.size (.slice (some ⟨E, 0, none⟩) 32 32) I) := ⟨by
              have h := HoldsB.ofBytes S1.out HIB.out (by rw [HIL.out]; decide)
              rw [HIL.out] at h
              exact h⟩
            have HSz : Kp (A + 2 ≤ W.heap.size) := ⟨by have := HS6.out; rw [hW]; simp [World.setRow]; omega⟩
            have hs := slice24_all
            subst hEe
            go_wp2_with (first
              | (refine wpList_store_row rfl 22 (.tmp 12) (.tmp 60) rfl w6.heap.size (kv .u8 I).toArray rfl rfl 22 _ (Blk.new w6 z24) HCI.out HZI.out (kv_all _ _) ?_; refine wpl_world (· = W) hW.symm ?_; clear hW; intro W0 e; rw [e]; clear e)
              | (at_builtin; refine wpList_append_holds2 rfl _ _ rfl (A + 2) _ _ _ rfl S4.out _ _ I rfl HH.out ?m0 ?m1 ?_))
            case m0 => rw [HIL.out]; omega
            case m1 => exact HSz.out
            intro v4 w7 ho hg hw
            have ho2 : w7.ownsRow (A + 2) 5 1 v4 (over B 92 ++ I).length (bv (over B 92 ++ I)) := by
              rw [List.length_append, HOL.out, show bv (over B 92 ++ I) = bv (over B 92) ++ bv I by simp]
              exact ho
            have hbel : Below (A + 2) W w7 := below_row_grown (Below.refl _ _) HSz.out S4.out hg
            have T2 := Kp.mk (S2.out.upto hbel (by omega))
            have T3 : Kp (Below A w w7) := ⟨S3.out.trans (hbel.mono (by omega))⟩
            have HV4 : Kp (HoldsB w7 w7.heap.size v4 (over B 92 ++ I)) := ⟨HoldsB.ofRow ((HOB.out 92).append HIB.out) ho2⟩
            clear ho hg hw hbel ho2 hs
            go_wp2_with fail
            refine (rsum_any _ v4 (over B 92 ++ I) w7 HV4.out (by rw [List.length_append, HOL.out, HIL.out]; omega)).mono ?_
            rintro r w8 ⟨rfl, h8⟩
            have U2 := Kp.mk (T2.out.keep h8)
            have U3 : Kp (Below A w w8) := ⟨T3.out.trans (h8.mono (Nat.le_of_lt T2.out.lt))⟩
            rw [← HE.out]
            have HRL : Kp (R.length = 32) := ⟨by rw [HE.out]; exact digest_len _⟩
            have HCR := Kp.mk (cells24 HRL.out)
            have HZR := Kp.mk (size32 HRL.out)
            have HF := Kp.mk (U2.out.setRow R)
            have HBf := Kp.mk (Below.row U3.out (g := A) (Nat.le_refl _) (kv .u8 R).toArray)
            clear h8
            go_wp2_with (refine wpList_store_row rfl 22 (.tmp 4) (.tmp 64) rfl A (kv .u8 R).toArray rfl rfl 22 _ U2.out HCR.out HZR.out (kv_all _ _) ?_)
            refine bodyPost_ret (v := .agg (kv .u8 R).toArray) ?_ rfl ⟨by rw [HRR.out], by rw [← HA.out]; exact HBf.out⟩
            exact results_cell_row rfl _ _ A 22 _ (0, 0) _ rfl HF.out Tryd.underlying22 rfl HCR.out
end Go.Proofs.YtgabjmmmiogfjaaDoor

namespace Go.Proofs.YtgabjmmmiogfjaaDoor
open Go.RowKit

theorem bv_cells {p : List Int} (h : Bytes p) : (p.map fun n => UInt8.ofNat n.toNat).map Extern.Stop.cell = kv .u8 p := by
  rw [List.map_map]
  refine List.map_congr_left fun x hx => ?_
  have := h x hx
  obtain ⟨m, rfl⟩ : ∃ m : Nat, x = m := ⟨x.toNat, by omega⟩
  simp only [Function.comp_def, Extern.Stop.cell, Int.toNat_natCast, UInt8.toNat_ofNat']
  congr 1
  have hm : m % 2 ^ 8 = m := Nat.mod_eq_of_lt (by omega)
  rw [hm]
  rfl
theorem eqIn25 {p : List Int} (hb : Bytes p) (h : p.length = 32) (w : World) : (Op.equalIn 10000 80 (.agg (kv .u8 p).toArray) (.agg (kv .u8 p).toArray)).run Tryd.prog w = .ok true w := by
  have := run_equalIn_bytes (P := Tryd.prog) w 9998 80 5 32 Tryd.underlying80 Tryd.underlying5 size5 (p.map fun n => UInt8.ofNat n.toNat) (p.map fun n => UInt8.ofNat n.toNat) (by simp [h]) (by simp [h])
  rw [bv_cells hb] at this
  simpa using this
/-- A sum, as a value. -/
abbrev dgV (p : List Int) : Value := .agg (kv .u8 p).toArray
theorem eql25 {p : List Int} (hb : Bytes p) (h : p.length = 32) (w : World) : (binOp .eql 80 (dgV p) (dgV p)).run Tryd.prog w = .ok (.bool true) w := by
  rw [run_eql_struct, eqIn25 hb h]; rfl
theorem neq25 {p : List Int} (hb : Bytes p) (h : p.length = 32) (w : World) : (binOp .neq 80 (dgV p) (dgV p)).run Tryd.prog w = .ok (.bool false) w := by
  rw [run_neq_struct, eqIn25 hb h]; rfl
theorem eqg25 (p q : List Int) (x y : Operand) (w : World) : (eqGuard .eql 80 x y (dgV p) (dgV q)).run Tryd.prog w = .ok () w := by kernel_rfl
theorem neg25 (p q : List Int) (x y : Operand) (w : World) : (eqGuard .neq 80 x y (dgV p) (dgV q)).run Tryd.prog w = .ok () w := by kernel_rfl
end Go.Proofs.YtgabjmmmiogfjaaDoor

namespace Go.Proofs.YtgabjmmmiogfjaaDoor
open Go.RowKit

set_option maxRecDepth 100000 in
set_option maxHeartbeats 1000000 in
theorem rtag_any (M N : Nat) (v u : Value) (k p : List Int) (w : World) (hp : HoldsB w M v k) (hq : HoldsB w N u p) (hlen : k.length ≤ 140737488351232) (hlen2 : p.length ≤ 140737488351300) :
    Calls Tryd.prog 38 #[v, u] w fun r w' => r = .returned (.agg (kv .u8 (halfL (macL k p))).toArray) ∧ Below w.heap.size w w' := by
  have HP := Kp.mk hp
  have HQ := Kp.mk hq
  have HL := Kp.mk hlen
  have HL2 := Kp.mk hlen2
  clear hp hq hlen hlen2
  go_enter Tryd.func38, Tryd.ntmps38
  go_wp2_with fail
  refine calls_world (fun W => Row W w.heap.size 40 .u8 (fill 16 []) ∧ Below w.heap.size w W) ⟨Blk.newAt (w := w) z49 rfl, more (Below.refl _ _) z49⟩ ?_
  rintro w1 ⟨hr, hb⟩
  have HR := Kp.mk hr
  have HB := Kp.mk hb
  clear hr hb
  refine (rmac_any M N v u k p w1 (HP.out.keep HB.out) (HQ.out.keep HB.out) HL.out HL2.out).mono ?_
  rintro r w2 ⟨rfl, h2⟩
  have HR2 := Kp.mk (HR.out.keep h2)
  have HB2 : Kp (Below w.heap.size w w2) := ⟨HB.out.trans (h2.mono HB.out.size)⟩
  have HM := Kp.mk (macL_len k p)
  obtain ⟨d, hd⟩ : ∃ d, d = macL k p := ⟨_, rfl⟩
  rw [← hd] at HM ⊢
  have HD := Kp.mk hd
  clear h2 hd
  go_wp2_with fail
  refine (rhalf_any d w2 HM.out).mono ?_
  rintro r w3 ⟨rfl, h3⟩
  have HR3 := Kp.mk (HR2.out.keep h3)
  have HB3 : Kp (Below w.heap.size w w3) := ⟨HB2.out.trans (h3.mono HB2.out.size)⟩
  have HC := Kp.mk (cells49 (halfL_len HM.out))
  have HZ := Kp.mk (size50 (halfL_len HM.out))
  have HF := Kp.mk (HR3.out.setRow (halfL d))
  have HBf := Kp.mk (Below.row HB3.out (g := w.heap.size) (Nat.le_refl _) (kv .u8 (halfL d)).toArray)
  clear h3
  go_wp2_with (refine wpList_store_row rfl 40 (.tmp 4) (.tmp 8) rfl w.heap.size (kv .u8 (halfL d)).toArray rfl rfl 40 _ HR3.out HC.out HZ.out (kv_all _ _) ?_)
  refine bodyPost_ret (v := .agg (kv .u8 (halfL d)).toArray) ?_ rfl ⟨by rw [HD.out], HBf.out⟩
  exact results_cell_row rfl _ _ w.heap.size 40 _ (0, 0) _ rfl HF.out Tryd.underlying40 rfl HC.out
end Go.Proofs.YtgabjmmmiogfjaaDoor

namespace Go.Proofs.YtgabjmmmiogfjaaDoor
open Go.RowKit

theorem PredRun.imp {P : Program} {w : World} {V V' : World → Value → Prop} {r : Result Next} (hi : ∀ w v, V w v → V' w v) (h : PredRun P w V r) : PredRun P w V' r := by
  cases r with
  | ok n w' =>
    cases n with
    | value u => exact ⟨hi _ _ h.1, h.2⟩
    | enter f args =>
      obtain ⟨rfl, hg⟩ := h
      exact ⟨rfl, Calls.mono hg fun e w'' he => by obtain ⟨v, rfl, hv, hb⟩ := he; exact ⟨v, rfl, hi _ _ hv, hb⟩⟩
    | _ => exact h.elim
  | halt x w' => exact h.elim
theorem PredOp.imp {P : Program} {ops : Array Oper} {o : Oper} {V V' : World → Value → Prop} {a : Act} {w : World} (h : PredOp P ops o V a w) (hi : ∀ w v, V w v → V' w v) : PredOp P ops o V' a w := by
  rcases h with ⟨h1, h2⟩ | ⟨h1, h2⟩
  · exact .inl ⟨h1, h2.imp hi⟩
  · exact .inr ⟨h1, hi _ _ h2⟩
section
variable {P : Program} {ops : Array Oper} {Q : Exit → Act → World → Prop} {S : World → Prop}

theorem wpAny_predR (hmono : Stays S) (hs : ∀ (j : Nat) (o : Oper) cs b, ops[j]? = some o → o.op ≠ .select cs b) {vs ps bs : List Nat} (hok : PartsQ ops vs ps bs) (hdst : dstsOk ops vs = true) (hbnd : bs.Nodup)
    (hQ : ∀ c a w d v, Q (.panic c) (Act.put a d v) w → Q (.panic c) a w)
    {Φ : Nat → World → Value → Prop} (hΦ : ∀ i w w' v, Φ i w v → Below w.heap.size w w' → Φ i w' v) {T : Nat → Nat → Value → Value → Prop} (hTs : ∀ i j u v, T i j u v → T j i v u) {a0 : Act}
    (need : ∀ i ∈ vs, ∀ (γ : Nat → Value) (w : World), S w → (∀ d ∈ depsOf ops vs i, Φ d w (γ d)) → ∃ o, ops[i]? = some o ∧ PredOp P ops o (fun w' v => Φ i w' v ∧ ∀ j u, j ≠ i → Φ j w u → (∀ d ∈ depsOf ops vs i, d ≠ j → T d j (γ d) u) → T i j v u) (putD ops γ (depsOf ops vs i) a0) w)
    (pure : ∀ i ∈ ps, ∀ (γ : Nat → Value) (w : World), S w → (∀ d ∈ depsOf ops vs i, Φ d w (γ d)) → ∃ o v, ops[i]? = some o ∧ Yields P ops o v (putD ops γ (depsOf ops vs i) a0) ∧ Φ i w v ∧ ∀ j u, j ≠ i → Φ j w u → (∀ d ∈ depsOf ops vs i, d ≠ j → T d j (γ d) u) → T i j v u)
    (hD : ∀ (γ : Nat → Value) (w : World), S w → (∀ i ∈ vs, Φ i w (γ i)) → (∀ i ∈ vs, ∀ j ∈ vs, i ≠ j → T i j (γ i) (γ j)) → wpOps P ops Q bs (putD ops γ vs a0) w) :
    ∀ (fuel : Nat) (listed : Array Bool) (γ : Nat → Value) (L : List Nat) (w : World), listed.size = ops.size → L.Nodup → (∀ i ∈ L, i ∈ vs) → (∀ i ∈ vs, i ∈ L ↔ listed.getD i false = true) → (∀ i ∈ bs, listed.getD i false = false) →
      Closed ops listed → (vs.filter fun i => !L.contains i).length + bs.length ≤ fuel → S w → (∀ i ∈ L, Φ i w (γ i)) → (∀ i ∈ L, ∀ j ∈ L, i ≠ j → T i j (γ i) (γ j)) → wpAny P .any ops Q fuel listed (putD ops γ L a0) w := by
  have hnd : vs.Nodup := hok.lt.imp fun h => by omega
  have hdd := dstsOk_spec hdst
  have hend : ∀ (fuel : Nat) (listed : Array Bool) (γ : Nat → Value) (L : List Nat) (w : World), listed.size = ops.size → L.Nodup → (∀ i ∈ L, i ∈ vs) → (∀ i ∈ vs, i ∈ L ↔ listed.getD i false = true) → (∀ i ∈ bs, listed.getD i false = false) →
      bs.length ≤ fuel → S w → (∀ i ∈ L, Φ i w (γ i)) → (∀ i ∈ L, ∀ j ∈ L, i ≠ j → T i j (γ i) (γ j)) → (∀ i ∈ vs, i ∈ L) → wpAny P .any ops Q fuel listed (putD ops γ L a0) w := by
    intro fuel listed γ L w hsz hLn hLv hl hbl hf hS hg hT hfull
    have hp : L.Perm vs := (List.perm_ext_iff_of_nodup hLn hnd).2 fun x => ⟨hLv x, hfull x⟩
    rw [putD_perm γ hp (fun x hx y hy => hdd x (hLv x hx) y (hLv y hy)) a0]
    refine wpAny_endQ hok bs 0 fuel listed _ w rfl hsz hf hbnd (fun i hi => ?_) (hD γ w hS (fun i hi => hg i (hfull i hi)) fun i hi j hj hne => hT i (hfull i hi) j (hfull j hj) hne)
    rcases hok.all i hi with h | h
    · exact ⟨fun _ hib => (hok.v i h).2 hib, fun _ => (hl i h).1 (hfull i h)⟩
    · exact ⟨fun ht => (by rw [hbl i h] at ht; cases ht), fun hn => absurd h hn⟩
  intro fuel
  induction fuel with
  | zero =>
    intro listed γ L w hsz hLn hLv hl hbl _ hf hS hg hT
    have h0 : (vs.filter fun i => !L.contains i) = [] := List.length_eq_zero_iff.1 (by omega)
    refine hend 0 listed γ L w hsz hLn hLv hl hbl (by omega) hS hg hT fun i hi => ?_
    have := List.filter_eq_nil_iff.1 h0 i hi
    simpa using this
  | succ fuel ih =>
    intro listed γ L w hsz hLn hLv hl hbl hcl hf hS hg hT
    by_cases hfull : ∀ i ∈ vs, i ∈ L
    · exact hend _ listed γ L w hsz hLn hLv hl hbl (by omega) hS hg hT hfull
    -- what has come up besides does not matter
    have htrans : ∀ i ∈ vs, ∀ oi, ops[i]? = some oi → i ∈ Region.ready .any ops listed → i ∉ L ∧ (∀ d ∈ depsOf ops vs i, d ∈ L) ∧
        execOp (putD ops γ L a0).eval oi = execOp (putD ops γ (depsOf ops vs i) a0).eval oi ∧ Region.wanted oi (yielded ops (putD ops γ L a0).tmps) = Region.wanted oi (yielded ops (putD ops γ (depsOf ops vs i) a0).tmps) := by
      intro i hiv oi hoi hi
      obtain ⟨h0, o', ho', hdeps⟩ := mem_ready.1 hi
      rw [hoi] at ho'
      cases ho'
      have hin : i < ops.size := (hok.v i hiv).1
      have h0' : listed.getD i false = false := by rw [← getD_flip (by rw [hsz]; exact hin)]; exact h0
      have hiL : i ∉ L := fun h => by rw [(hl i hiv).1 h] at h0'; cases h0'
      have hdL : ∀ d ∈ depsOf ops vs i, d ∈ L := fun d hd => by
        obtain ⟨hdv, e, he, hb, heq⟩ := (mem_depsOf hoi).1 hd
        have := hdeps e he hb
        rw [heq] at this
        exact (hl d hdv).2 this
      have hp : L.Perm (depsOf ops vs i ++ L.filter fun x => !(depsOf ops vs i).contains x) := by
        have h1 := (List.filter_append_perm (fun x => (depsOf ops vs i).contains x) L).symm
        refine h1.trans (List.Perm.append_right _ ?_)
        refine (List.perm_ext_iff_of_nodup (hLn.filter _) (hnd.filter _)).2 fun x => ?_
        rw [List.mem_filter]
        simp only [List.contains_eq_mem, decide_eq_true_eq]
        exact ⟨fun h => h.2, fun h => ⟨hdL x h, h⟩⟩
      have hput : putD ops γ L a0 = putD ops γ (L.filter fun x => !(depsOf ops vs i).contains x) (putD ops γ (depsOf ops vs i) a0) := by
        rw [putD_perm γ hp (fun x hx y hy => hdd x (hLv x hx) y (hLv y hy)) a0, putD_append]
      have hsame := same_putD (ops := ops) γ oi (fun cs b => hs i oi cs b hoi) (L.filter fun x => !(depsOf ops vs i).contains x) (putD ops γ (depsOf ops vs i) a0) fun x hx t ht => by
        obtain ⟨hxL, hxd⟩ := List.mem_filter.1 hx
        have hxv := hLv x hxL
        have hxo := Array.getElem?_eq_getElem (hok.v x hxv).1
        have hxd' : x ∉ depsOf ops vs i := by simpa using hxd
        have hdx : (ops[x]'(hok.v x hxv).1).dst = some t := by
          unfold dstOf at ht
          rw [hxo] at ht
          exact ht
        have hno : ∀ e ∈ oi.after, Region.binds .any e = true → e.on ≠ x := fun e he hb heq => hxd' ((mem_depsOf hoi).2 ⟨hxv, e, he, hb, heq⟩)
        have hne : x ≠ i := fun e => hiL (e ▸ hxL)
        rcases Nat.lt_or_gt_of_ne hne with hxi | hxi
        · exact (Oper.apart_spec ((hok.vd i hiv oi hoi).2 x hxv hxi _ hxo hno)).1 t hdx
        · have hap := (hok.vd x hxv _ hxo).2 i hiv hxi oi hoi fun e he hb heq => by
            have := hcl x _ e ((hl x hxv).1 hxL) hxo he hb
            rw [heq, h0'] at this
            cases this
          exact (Oper.apart_spec hap).2.2 t hdx
      rw [hput]
      exact ⟨hiL, hdL, hsame.1, hsame.2⟩
    -- one more has come up
    have hstep : ∀ i ∈ vs, ∀ oi, ops[i]? = some oi → i ∈ Region.ready .any ops listed → i ∉ L → ∀ v w', Φ i w' v → (∀ j ∈ L, T i j v (γ j)) → Below w.heap.size w w' → wpAny P .any ops Q fuel (listed.setIfInBounds i true) ((putD ops γ L a0).put oi.dst v) w' := by
      intro i hiv oi hoi hi hiL v w' hv hvT hb
      have hin : i < ops.size := (hok.v i hiv).1
      have hγ : (putD ops γ L a0).put oi.dst v = putD ops (fun k => if k = i then v else γ k) (L ++ [i]) a0 := by
        rw [putD_append, putD_congr (γ := fun k => if k = i then v else γ k) (γ' := γ) L a0 fun k hk => (if_neg (fun e : k = i => hiL (e ▸ hk)) : (if k = i then v else γ k) = γ k)]
        show (putD ops γ L a0).put oi.dst v = (putD ops γ L a0).put (dstOf ops i) (if i = i then v else γ i)
        rw [if_pos rfl]
        unfold dstOf
        rw [hoi]
        rfl
      rw [hγ]
      refine ih _ _ _ _ (by simpa using hsz) ?_ ?_ ?_ ?_ (closed_set hcl hi) ?_ (hmono _ _ hS hb) ?_ ?_
      · rw [List.nodup_append]
        exact ⟨hLn, by simp, fun x hx y hy e => by simp at hy; exact hiL (hy ▸ e ▸ hx)⟩
      · intro x hx
        rcases List.mem_append.1 hx with h | h
        · exact hLv x h
        · simp at h; exact h ▸ hiv
      · intro x hx
        rw [listed_set (by rw [hsz]; exact hin), List.mem_append]
        by_cases hxi : x = i
        · subst hxi; simp
        · rw [if_neg hxi, ← hl x hx]; simp [hxi]
      · intro x hx
        have hxi : x ≠ i := fun e => (hok.v i hiv).2 (e ▸ hx)
        rw [listed_set (by rw [hsz]; exact hin), if_neg hxi]
        exact hbl x hx
      · have hlen : (vs.filter fun x => !(L ++ [i]).contains x).length < (vs.filter fun x => !L.contains x).length := by
          have hsub : (vs.filter fun x => !(L ++ [i]).contains x) = (vs.filter fun x => !L.contains x).filter fun x => x != i := by
            rw [List.filter_filter]
            congr 1
            funext x
            simp only [List.contains_eq_mem, List.mem_append, List.mem_singleton]
            by_cases h1 : x ∈ L <;> by_cases h2 : x = i <;> simp [h1, h2]
          rw [hsub]
          refine List.length_filter_lt_length_iff_exists.2 ⟨i, List.mem_filter.2 ⟨hiv, by simpa using hiL⟩, by simp⟩
        omega
      · intro x hx
        rcases List.mem_append.1 hx with h | h
        · have hxi : x ≠ i := fun e => hiL (e ▸ h)
          show Φ x w' (if x = i then v else γ x)
          rw [if_neg hxi]
          exact hΦ x w w' _ (hg x h) hb
        · simp at h
          subst h
          show Φ x w' (if x = x then v else γ x)
          rw [if_pos rfl]
          exact hv
      · intro x hx y hy hxy
        show T x y (if x = i then v else γ x) (if y = i then v else γ y)
        rcases List.mem_append.1 hx with h | h
        · have hxi : x ≠ i := fun e => hiL (e ▸ h)
          rw [if_neg hxi]
          rcases List.mem_append.1 hy with h2 | h2
          · have hyi : y ≠ i := fun e => hiL (e ▸ h2)
            rw [if_neg hyi]
            exact hT x h y h2 hxy
          · simp at h2
            subst h2
            rw [if_pos rfl]
            exact hTs _ _ _ _ (hvT x h)
        · simp at h
          subst h
          rw [if_pos rfl]
          rcases List.mem_append.1 hy with h2 | h2
          · have hyi : y ≠ x := fun e => hxy e.symm
            rw [if_neg hyi]
            exact hvT y h2
          · simp at h2
            exact absurd h2.symm hxy
    by_cases hpure : ∃ i ∈ ps, i ∈ Region.ready .any ops listed
    · obtain ⟨i, hip, hi⟩ := hpure
      have hiv := hok.p i hip
      have hoi := Array.getElem?_eq_getElem (hok.v i hiv).1
      obtain ⟨hiL, hdL, e1, e2⟩ := htrans i hiv _ hoi hi
      obtain ⟨o, v, ho, hy, hv, hvT⟩ := pure i hip γ w hS fun d hd => hg d (hdL d hd)
      rw [hoi] at ho
      cases ho
      exact wpAny_first hoi hs (fun c a w h => hQ c a w _ v h) fuel listed _ w (fun j oj hj hne hlj hno => hok.free i hip _ hoi j oj hj hne (fun e he hb heq => by
        obtain ⟨_, o', ho', hdeps⟩ := mem_ready.1 hi
        rw [hoi] at ho'
        cases ho'
        have h1 := hdeps e he hb
        rw [heq, ← getD_flip (by rw [hsz]; exact (Array.getElem?_eq_some_iff.1 hj).1), hlj] at h1
        cases h1) hno) hi (hy.of_same e1 e2) (hstep i hiv _ hoi hi hiL v w hv (fun j hj => hvT j _ (fun e => hiL (e ▸ hj)) (hg j hj) fun d hd hdj => hT d (hdL d hd) j hj hdj) (Below.refl _ _))
    have hno : ∀ i ∈ ps, i ∉ Region.ready .any ops listed := fun i hip hi => hpure ⟨i, hip, hi⟩
    refine ⟨fun hr => ?_, fun i hi => ?_⟩
    · exfalso
      apply hfull
      have : ∀ n i, i ≤ n → i ∈ vs → i ∈ L := by
        intro n
        induction n with
        | zero =>
          intro i hin hi
          false_or_by_contra
          rename_i hiL
          have hio := Array.getElem?_eq_getElem (hok.v i hi).1
          have hm : i ∈ Region.ready .any ops listed := mem_ready.2 ⟨by rw [getD_flip (by rw [hsz]; exact (hok.v i hi).1)]; have := fun h => hiL ((hl i hi).2 h); simpa using this, _, hio, fun e he hb => by
            have := ((hok.vd i hi _ hio).1 e he hb).2
            omega⟩
          rw [hr] at hm
          cases hm
        | succ n ihn =>
          intro i hin hi
          false_or_by_contra
          rename_i hiL
          have hio := Array.getElem?_eq_getElem (hok.v i hi).1
          have hm : i ∈ Region.ready .any ops listed := mem_ready.2 ⟨by rw [getD_flip (by rw [hsz]; exact (hok.v i hi).1)]; have := fun h => hiL ((hl i hi).2 h); simpa using this, _, hio, fun e he hb => by
            obtain ⟨h1, h2⟩ := (hok.vd i hi _ hio).1 e he hb
            exact (hl e.on h1).1 (ihn e.on (by omega) h1)⟩
          rw [hr] at hm
          cases hm
      exact fun i hi => this i i (Nat.le_refl _) hi
    · obtain ⟨h0, oi, hoi, hdeps⟩ := mem_ready.1 hi
      have hin : i < ops.size := (Array.getElem?_eq_some_iff.1 hoi).1
      rcases hok.all i hin with hiv | hib
      · obtain ⟨hiL, hdL, e1, e2⟩ := htrans i hiv oi hoi hi
        obtain ⟨o, ho, hop⟩ := need i hiv γ w hS fun d hd => hg d (hdL d hd)
        rw [hoi] at ho
        cases ho
        exact (hop.of_same e1 e2).wpOp hoi fun v w' hv hb => hstep i hiv oi hoi hi hiL v w' hv.1 (fun j hj => hv.2 j _ (fun e => hiL (e ▸ hj)) (hg j hj) fun d hd hdj => hT d (hdL d hd) j hj hdj) hb
      · exfalso
        apply hfull
        intro x hx
        obtain ⟨k, hk⟩ := List.getElem?_of_mem hib
        have hdl : ∀ y, direct oi y = true → listed.getD y false = true := fun y hy => by
          obtain ⟨e, he, hb, heq⟩ := direct_spec.1 hy
          have := hdeps e he hb
          rw [heq] at this
          exact this
        rcases (hok.bd k i hk oi hoi).2.2 x hx with hd | ⟨hxp, hd⟩
        · exact (hl x hx).2 (hdl x hd)
        · false_or_by_contra
          rename_i hxL
          have hxo := Array.getElem?_eq_getElem (hok.v x hx).1
          refine hno x hxp (mem_ready.2 ⟨by rw [getD_flip (by rw [hsz]; exact (hok.v x hx).1)]; have := fun h => hxL ((hl x hx).2 h); simpa using this, _, hxo, fun e he hb => ?_⟩)
          exact hdl _ (hd _ ((mem_depsOf hxo).2 ⟨((hok.vd x hx _ hxo).1 e he hb).1, e, he, hb, rfl⟩))

/-- Of the operations that i waits for: they stand to number j, whose value is u, as T asks. -/
def AllT (T : Nat → Nat → Value → Value → Prop) (γ : Nat → Value) (j : Nat) (u : Value) (l : List (Nat × Option Tmp)) : Prop := ∀ p ∈ l, p.1 ≠ j → T p.1 j (γ p.1) u
theorem allT_of {T : Nat → Nat → Value → Value → Prop} {γ : Nat → Value} {j : Nat} {u : Value} {l : List Nat} (h : ∀ d ∈ l, d ≠ j → T d j (γ d) u) : AllT T γ j u (l.map fun d => (d, dstOf ops d)) := fun p hp hne => by
  obtain ⟨d, hd, rfl⟩ := List.mem_map.1 hp
  exact h d hd hne
def NeedR (P : Program) (ops : Array Oper) (S : World → Prop) (Φ : Nat → World → Value → Prop) (T : Nat → Nat → Value → Value → Prop) (a0 : Act) : List Nat → List (List (Nat × Option Tmp)) → Prop
  | i :: r, d :: ds => (∀ (γ : Nat → Value) (w : World), S w → AllE Φ γ w d → ∃ o, ops[i]? = some o ∧ PredOp P ops o (fun w' v => Φ i w' v ∧ ∀ j u, j ≠ i → Φ j w u → AllT T γ j u d → T i j v u) (putE γ d a0) w) ∧ NeedR P ops S Φ T a0 r ds
  | _, _ => True
theorem needR_at {vs : List Nat} {Φ : Nat → World → Value → Prop} {T : Nat → Nat → Value → Value → Prop} {a0 : Act} : ∀ l : List Nat, NeedR P ops S Φ T a0 l (l.map fun i => (depsOf ops vs i).map fun d => (d, dstOf ops d)) → ∀ i ∈ l, ∀ (γ : Nat → Value) (w : World), S w → (∀ d ∈ depsOf ops vs i, Φ d w (γ d)) → ∃ o, ops[i]? = some o ∧ PredOp P ops o (fun w' v => Φ i w' v ∧ ∀ j u, j ≠ i → Φ j w u → (∀ d ∈ depsOf ops vs i, d ≠ j → T d j (γ d) u) → T i j v u) (putD ops γ (depsOf ops vs i) a0) w
  | [], _, _, hi => by cases hi
  | j :: r, h, i, hi => by
    rcases List.mem_cons.1 hi with rfl | hi
    · intro γ w hS hd
      obtain ⟨o, ho, hp⟩ := h.1 γ w hS (allE_eq _ hd)
      rw [putE_eq] at hp
      refine ⟨o, ho, hp.imp ?_⟩
      exact fun w' v h => ⟨h.1, fun j u hj hu hT => h.2 j u hj hu (allT_of hT)⟩
    · exact needR_at r h.2 i hi
def PureR (P : Program) (ops : Array Oper) (S : World → Prop) (Φ : Nat → World → Value → Prop) (T : Nat → Nat → Value → Value → Prop) (a0 : Act) : List Nat → List (List (Nat × Option Tmp)) → Prop
  | i :: r, d :: ds => (∀ (γ : Nat → Value) (w : World), S w → AllE Φ γ w d → ∃ o v, ops[i]? = some o ∧ Yields P ops o v (putE γ d a0) ∧ Φ i w v ∧ ∀ j u, j ≠ i → Φ j w u → AllT T γ j u d → T i j v u) ∧ PureR P ops S Φ T a0 r ds
  | _, _ => True
theorem pureR_at {vs : List Nat} {Φ : Nat → World → Value → Prop} {T : Nat → Nat → Value → Value → Prop} {a0 : Act} : ∀ l : List Nat, PureR P ops S Φ T a0 l (l.map fun i => (depsOf ops vs i).map fun d => (d, dstOf ops d)) → ∀ i ∈ l, ∀ (γ : Nat → Value) (w : World), S w → (∀ d ∈ depsOf ops vs i, Φ d w (γ d)) → ∃ o v, ops[i]? = some o ∧ Yields P ops o v (putD ops γ (depsOf ops vs i) a0) ∧ Φ i w v ∧ ∀ j u, j ≠ i → Φ j w u → (∀ d ∈ depsOf ops vs i, d ≠ j → T d j (γ d) u) → T i j v u
  | [], _, _, hi => by cases hi
  | j :: r, h, i, hi => by
    rcases List.mem_cons.1 hi with rfl | hi
    · intro γ w hS hd
      obtain ⟨o, v, ho, hp, hv, hT⟩ := h.1 γ w hS (allE_eq _ hd)
      rw [putE_eq] at hp
      exact ⟨o, v, ho, hp, hv, fun j u hj hu hd => hT j u hj hu (allT_of hd)⟩
    · exact pureR_at r h.2 i hi
/-- THE LAW. -/
theorem wp_region_predR {id : Nat} {a : Act} {w : World} (S : World → Prop) (vs ps bs : List Nat) (Φ : Nat → World → Value → Prop) (T : Nat → Nat → Value → Value → Prop) (dl pl : List (List (Nat × Option Tmp))) (al : List (Nat × Option Tmp)) (hm : P.follows .mixedOrders = true) (hs : Region.noSelect ops = true) (hok : partsOkQ ops vs ps bs = true) (hdst : dstsOk ops vs = true)
    (hdl : (vs.map fun i => (depsOf ops vs i).map fun d => (d, dstOf ops d)) = dl) (hpl : (ps.map fun i => (depsOf ops vs i).map fun d => (d, dstOf ops d)) = pl) (hal : (vs.map fun d => (d, dstOf ops d)) = al) (hbnd : bs.Nodup) (hlen : vs.length + bs.length ≤ ops.size) (hmono : Stays S)
    (hQ : ∀ c a w d v, Q (.panic c) (Act.put a d v) w → Q (.panic c) a w) (hTs : ∀ i j u v, T i j u v → T j i v u) (hΦ : ∀ i w w' v, Φ i w v → Below w.heap.size w w' → Φ i w' v) (hS : S w.drew)
    (need : NeedR P ops S Φ T a vs dl) (pure : PureR P ops S Φ T a ps pl)
    (hD : ∀ (γ : Nat → Value) (w : World), S w → AllE Φ γ w al → (∀ i ∈ vs, ∀ j ∈ vs, i ≠ j → T i j (γ i) (γ j)) → wpOps P ops Q bs (putE γ al a) w) : (Code.region id ops true).wp P Q a w := by
  have hl0 : ∀ i, (Array.replicate ops.size false).getD i false = false := fun i => by
    by_cases hi : i < ops.size <;> simp [hi]
  subst hdl hpl hal
  refine wp_region_any hm ?_
  exact wpAny_predR (Q := Q) hmono (Region.noSelect_spec hs) (partsQ_of hok) hdst hbnd hQ hΦ hTs (fun i hi γ wx hSx h => needR_at vs need i hi γ wx hSx h) (fun i hi γ wx hSx h => pureR_at ps pure i hi γ wx hSx h) (fun γ wx hSx h hT => by rw [← putE_eq]; exact hD γ wx hSx (allE_eq _ h) hT)
    ops.size (Array.replicate ops.size false) (fun _ => undef) [] w.drew (by simp) (by simp) (fun i hi => by cases hi) (fun i _ => by simp [hl0]) (fun i _ => hl0 i)
    (fun i o e hi => by rw [hl0] at hi; cases hi) (Nat.le_trans (Nat.add_le_add_right (List.length_filter_le _ _) _) hlen) hS (fun i hi => by cases hi) (fun i hi => by cases hi)
end
/-- The slice in a value does not lie in block g. -/
def Off (g : Nat) : Value → Prop
  | .slice (some a) _ _ => a.block ≠ g
  | .pointer (some a) => a.block ≠ g
  | .tuple #[_, .slice (some a) _ _, _] => a.block ≠ g
  | _ => True
/-- What number K makes stands apart from what the others hold. -/
abbrev Apt (K : Nat) (i j : Nat) (u v : Value) : Prop := (j = K → ∀ g, v = .pointer (some ⟨g, 0, none⟩) → Off g u) ∧ (i = K → ∀ g, u = .pointer (some ⟨g, 0, none⟩) → Off g v)
theorem Apt.symm (K : Nat) : ∀ i j u v, Apt K i j u v → Apt K j i v u := fun _ _ _ _ h => ⟨h.2, h.1⟩
end Go.Proofs.YtgabjmmmiogfjaaDoor

namespace Go.Proofs.YtgabjmmmiogfjaaDoor
open Go.RowKit

theorem alloc_row {P : Program} {t : TypeId} {cs : Array Value} {n : Nat} (hi : (P.info? t).map (fun i => (i.zero, i.size)) = some (some (.agg cs), n)) (old : Value) (w : World) :
    (Instr.alloc t true old).run P w = .ok (.pointer (some ⟨w.heap.size, 0, none⟩)) (w.alloc (.cells cs t)) := by
  cases hq : P.info? t with
  | none => simp [hq] at hi
  | some i =>
    have hz : i.zero = some (.agg cs) := by simp [hq] at hi; exact hi.1
    unfold Instr.alloc
    simp [zeroValue, typeInfo, hq, hz, newVar, newRow, Value.cells]
theorem wpList_alloc_row {P : Program} {ops : Array Oper} {rest : List Oper} {o : Oper} {a : Act} {w : World} {Q : Exit → Act → World → Prop} (hg : o.guard = none) (t : TypeId) (ho : o.op = .alloc t)
    (cs : Array Value) (n : Nat) (hi : (P.info? t).map (fun i => (i.zero, i.size)) = some (some (.agg cs), n))
    (h : wpList P ops Q rest (a.put o.dst (.pointer (some ⟨w.heap.size, 0, none⟩))) (w.alloc (.cells cs t))) : wpList P ops Q (o :: rest) a w := by
  refine Go.Great.wpList_allocTo hg o.dst rfl _ _ ?_ h
  unfold execOp
  simp only [ho, Sem.run_bind, alloc_row hi, Result.andThen_ok, Sem.run_pure]
theorem box_row {t : TypeId} {cs : List Value} (h1 : (Tryd.prog.info? t).map (·.size) = some cs.toArray.size) (w : World) : (Instr.box t (.agg cs.toArray)).run Tryd.prog w = .ok (.pointer (some ⟨w.heap.size, 0, none⟩)) (w.alloc (.cells cs.toArray t)) := by
  cases hq : Tryd.prog.info? t with
  | none => simp [hq] at h1
  | some i =>
    have hi : i.size = cs.toArray.size := by simpa [hq] using h1
    simp [Instr.box, newVar, sizeOf, typeInfo, hq, hi, Value.cells, newRow]
theorem wpList_box_eq {P : Program} {w : World} {ops : Array Oper} {rest : List Oper} {o : Oper} {a : Act} {Q : Exit → Act → World → Prop} (hg : o.guard = none) (t : TypeId) (x : Operand) (ho : o.op = .box t x)
    (u : Value) (hx : a.eval x = u) (v : Value) (w' : World) (hrun : (Instr.box t u).run P w = .ok v w') (h : wpList P ops Q rest (a.put o.dst v) w') : wpList P ops Q (o :: rest) a w := by
  subst hx
  refine wpList_plain hg fun _ hK => ?_
  unfold Oper.wp execOp
  simp only [ho, Sem.run_bind, hrun, Result.andThen_ok]
  exact hK _ _ h
end Go.Proofs.YtgabjmmmiogfjaaDoor

namespace Go.Proofs.YtgabjmmmiogfjaaDoor
open Go.ChangeShapes Go.WideShapes Go.ChangeAt Go.RowKit Go.Deep

theorem okWide_arr {P : Program} {w : World} {r : Reach} {base : Nat} {t e : TypeId} {n : Nat} {v : Value} (ht : P.underlying t = some (.array n e)) (h : Value.okWide P w r base t v) : ∃ cs, v = .agg cs ∧ cs.size = P.cellsOf t := by
  simp only [Value.okWide, ht] at h
  obtain ⟨cs, h1, h2, _⟩ := h
  exact ⟨cs, h1, h2⟩
set_option maxRecDepth 100000 in
/-- An array of bytes that came in by value. -/
theorem open_bytes {H : Type} {enc : TypeId × Value → H} {W : World} {r : Reach} {base b0 : Nat} {spare held : Bool} {t : TypeId} {n : Nat} {v : Value} {d : DataW H} {p : List MemPlace}
    (ht : Tryd.prog.underlying t = some (.array n 5)) (hC : Tryd.prog.cellsOf t = n) (hv : Value.okWide Tryd.prog W r b0 t v) (h : DataW.Trod enc Tryd.prog W base (fun _ => spare) held t v d p) :
    ∃ l : List Int, v = .agg (kv .u8 l).toArray ∧ l.length = n ∧ Bytes l := by
  have c5 : Tryd.prog.cellsOf 5 = 1 := by kernel_rfl
  obtain ⟨cs, rfl, hsz⟩ := okWide_arr ht hv
  obtain ⟨fuel, hf⟩ := h
  obtain ⟨xs, m, rfl, hx, hlen, hn, hel⟩ := DataW.trod_array ht hf
  have hcl : cs.size = n := hsz.trans hC
  have each : ∀ i, i < n → ∃ z : Int, cs.toList[i]? = some (.int .u8 z) ∧ 0 ≤ z ∧ z ≤ 255 := fun i hi => by
    have he := hel i hi
    rw [c5, Nat.mul_one] at he
    rw [List.getElem?_eq_getElem (by omega)] at he
    obtain ⟨k, e1, _, wk⟩ := DataW.trod_int Tryd.underlying5 he
    have h1 : IntKind.u8.min = 0 := rfl
    have h2 : IntKind.u8.max = 255 := rfl
    simp [Lit.wf, h1, h2] at wk
    refine ⟨k, ?_, wk⟩
    have h4 := congrArg (fun l : List Value => l[0]?) e1
    simp only [List.getElem?_take, List.getElem?_drop, Nat.lt_one_iff, if_true, Nat.add_zero] at h4
    simpa [Value.cells] using h4
  obtain ⟨f, hf'⟩ : ∃ f : Nat → Int, ∀ i, i < n → cs.toList[i]? = some (.int .u8 (f i)) ∧ 0 ≤ f i ∧ f i ≤ 255 := by
    refine ⟨fun i => if h : i < n then Classical.choose (each i h) else 0, fun i hi => ?_⟩
    simp only [hi, dif_pos]
    exact Classical.choose_spec (each i hi)
  refine ⟨(List.range n).map f, ?_, by simp, fun z hz => ?_⟩
  · congr 1
    apply Array.toList_inj.1
    apply List.ext_getElem?
    intro i
    by_cases hi : i < n
    · rw [(hf' i hi).1]
      simp [List.getElem?_range hi]
    · rw [List.getElem?_eq_none (by simp; omega), List.getElem?_eq_none (by simp; omega)]
  · obtain ⟨i, hi, rfl⟩ := List.mem_map.1 hz
    exact (hf' i (List.mem_range.1 hi)).2
/-- The slice's cells are the numbers ns, each of 64 bits. -/
def HoldsQ (w : World) (a : Option Addr) (ns : List Int) : Prop :=
  (∀ x ∈ ns, 0 ≤ x ∧ x < 18446744073709551616) ∧ ∀ i, i < ns.length → ∃ b off, a = some ⟨b, off, none⟩ ∧ b < w.heap.size ∧ w.cell? ⟨b, off + i, none⟩ = some (.int .u64 (ns.getD i 0))
theorem HoldsQ.keep {w w' : World} {a : Option Addr} {ns : List Int} (h : HoldsQ w a ns) (hb : Below w.heap.size w w') : HoldsQ w' a ns := by
  refine ⟨h.1, fun i hi => ?_⟩
  obtain ⟨b, off, e1, e2, e3⟩ := h.2 i hi
  exact ⟨b, off, e1, Nat.lt_of_lt_of_le e2 hb.size, (hb.cell (p := ⟨b, off + i, none⟩) e2).trans e3⟩
end Go.Proofs.YtgabjmmmiogfjaaDoor

namespace Go.Proofs.YtgabjmmmiogfjaaDoor
open Go.ChangeShapes Go.WideShapes Go.ChangeAt Go.RowKit

abbrev laidL : List (String × DataW Unit) := Rows.frameSealsRow.laid
theorem gKon : Tryd.prog.globalNamed ((Rows.frameSealsRow.laid.map (·.1)).headD default) = some 0 := by kernel_rfl
theorem tKon : (Tryd.prog.globals[0]?).map (·.type) = some 170 := by kernel_rfl
set_option maxRecDepth 100000 in
theorem laid_kon : (Rows.laid_fingerpost_sha_constants : DataW Unit) = .agg (kon.map fun k => .lit (.int .u32 k)) := rfl
set_option maxRecDepth 100000 in
theorem door_met (os : Os) (args : Array Value) : laidMetH Tryd.prog laidL ((World.doorLaid Tryd.prog 400 os).forCall (fun _ _ => 0) ⟨#[], args, []⟩).memory :=
  laidMetH_of_parts3 (fuel := 8) (laidMet_of_run' 8 (by kernel_rfl) (by kernel_rfl)) (by kernel_rfl) (by kernel_rfl)
theorem kon_of_laid {W : World} (h : laidMetH Tryd.prog laidL W) : KonIs W := by
  rw [MakeChecks.laidMetH_plain _ _ _ (by kernel_rfl)] at h
  obtain ⟨ps, ⟨g0, t0, cs0, f0, p0, q0, hg0, ht0, hv0, hd0, _, _⟩, _⟩ := h
  obtain rfl := Option.some.inj (gKon.symm.trans hg0)
  obtain rfl := Option.some.inj (tKon.symm.trans ht0)
  obtain ⟨xs, m, rfl, hx, hlen, hn, hel⟩ := DataW.trod_array Tryd.underlying170 hd0
  have c67 : Tryd.prog.cellsOf 98 = 1 := by kernel_rfl
  simp only [Prod.mk.injEq] at hx
  have hx1 := hx.1
  rw [laid_kon] at hx1
  simp only [DataW.agg.injEq] at hx1
  intro i hi
  have he := hel i hi
  rw [c67, Nat.mul_one] at he
  have hix : i < xs.length := by omega
  rw [List.getElem?_eq_getElem hix] at he
  obtain ⟨k, e1, e2, _⟩ := DataW.trod_int Tryd.underlying98 he
  have hk : (xs.map (·.1))[i]? = some (DataW.lit (.int .u32 k)) := by
    rw [List.getElem?_map, List.getElem?_eq_getElem hix]
    exact congrArg some (congrArg Prod.fst e2)
  rw [← hx1, List.getElem?_map, List.getElem?_eq_getElem (by rw [kon_len]; exact hi)] at hk
  simp at hk
  rw [World.var?_cell hg0 hv0 i]
  have h3 : cs0.toList[i]? = some (.int .u32 k) := by
    have h4 := congrArg (fun l : List Value => l[0]?) e1
    simp only [List.getElem?_take, List.getElem?_drop, Nat.lt_one_iff, if_true, Nat.add_zero] at h4
    simpa using h4
  rw [Array.getElem?_toList] at h3
  rw [h3, ← hk, List.getD_eq_getElem?_getD, List.getElem?_eq_getElem (by rw [kon_len]; exact hi)]
  rfl
end Go.Proofs.YtgabjmmmiogfjaaDoor
