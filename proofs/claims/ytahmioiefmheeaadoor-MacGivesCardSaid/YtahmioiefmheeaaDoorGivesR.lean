/-
  The document's Prf.
-/
import Derived.Test.YtahmioiefmheeaaDoorGives
import Derived.Test.YtahmioiefmheeaaDoorNum
namespace Go.Proofs.YtahmioiefmheeaaDoor
open Go.RowKit

theorem slice37_all (b : Nat) (w : World) : (Instr.sliceAt 37 (.pointer (some ⟨b, 0, none⟩)) none none none).run Tryd.prog w = .ok (.slice (some ⟨b, 0, none⟩) 32 32) w := slice24_all b w
set_option maxRecDepth 100000 in
set_option maxHeartbeats 1000000 in
theorem rprf_any (s : List Int) (k : Int) (n cap : Nat) (a : Option Addr) (ns : List Int) (w : World) (hs : s.length = 32) (hsb : Bytes s) (hk8 : 0 ≤ k ∧ k ≤ 255) (hn : ns.length = n) (hq : HoldsQ w a ns) (hlen : 8 * n ≤ 140737488351232) :
    Calls Tryd.prog 27 #[.agg (kv .u8 s).toArray, .int .u8 k, .slice a n cap] w fun r w' => r = .returned (.agg (kv .u8 (halfL (macL s (prfB k n ns)))).toArray) ∧ Below w.heap.size w w' := by
  have HS := Kp.mk hs
  have HSB := Kp.mk hsb
  have HK8 := Kp.mk hk8
  have HN := Kp.mk hn
  have HQ := Kp.mk hq
  clear hs hsb hn hq
  have k0 := hk8.1
  have k1 := hk8.2
  clear hk8
  have hm : IntKind.i64.wrap ((n : Int).tmod 256) = (n : Int) % 256 := by rw [Int.tmod_eq_emod_of_nonneg (by omega)]; exact IntWalk.i64_in _ (by omega)
  go_enter Tryd.func27, Tryd.ntmps27
  go_wp2_with fail
  obtain ⟨A, hA⟩ : ∃ A, A = w.heap.size := ⟨_, rfl⟩
  have HA := Kp.mk hA
  rw [← hA]
  refine wp_world (fun W => Row W A 37 .u8 s ∧ Row W (A + 1) 32 .u8 (fill 16 []) ∧ W.ownsRow (A + 1 + 1) 5 1 (.slice (some ⟨A + 1 + 1, 0, none⟩) 2 2) 2 (bv (prfB k n [])) ∧ Below A w W)
    ⟨Blk.old (Blk.old (Blk.newAt _ hA) _) _, Blk.old (Blk.newAt _ (by simp [hA])) _, ?_, by rw [hA]; exact more (more (more (Below.refl _ _) _) _) _⟩ ?_
  · have h := ownsRow_two ((w.alloc (.cells (kv .u8 s).toArray 37)).alloc z49) k ((n : Int) % 256)
    have e : ((w.alloc (.cells (kv .u8 s).toArray 37)).alloc z49).heap.size = A + 1 + 1 := by simp [hA]
    rw [e] at h
    exact h
  generalize hB : A + 1 + 1 = B
  have HB := Kp.mk hB
  clear hA hB hm
  rintro W ⟨h1, h2, h3, h4⟩
  have G1 := Kp.mk h1
  have G2 := Kp.mk h2
  have G3 := Kp.mk h3
  have G4 := Kp.mk h4
  clear h1 h2 h3 h4
  go_loopw [7, 8] (fun s7 c wr => ∃ (i N : Nat) (a7 : Option Addr) (c7 : Nat), i ≤ n ∧ c = .int .i64 i ∧ s7 = .slice a7 N c7 ∧ Kp (N = 2 + 8 * i) ∧ Row wr A 37 .u8 s ∧ Row wr (A + 1) 32 .u8 (fill 16 []) ∧ wr.ownsRow B 5 1 (.slice a7 N c7) N (bv (prfB k n (ns.take i))) ∧ Below A w wr) (fun _ c _ => n - (intOf c).toNat)
  case atStart => exact ⟨0, 2, _, _, by omega, rfl, rfl, ⟨rfl⟩, G1.out, G2.out, by rw [List.take_zero]; exact G3.out, G4.out⟩
  case round =>
    obtain ⟨i, N, a7, c7, hi, rfl, rfl, HNN, h1, h2, h3, h4⟩ := hrel
    clear G1 G2 G3 G4
    have G1 := Kp.mk h1
    have G2 := Kp.mk h2
    have G3 := Kp.mk h3
    have G4 := Kp.mk h4
    clear h1 h2 h3 h4
    have HSz : Kp (B ≤ wr.heap.size ∧ A ≤ B) := ⟨by have := G2.out.lt; have := HB.out; omega, by have := HB.out; omega⟩
    by_cases hlt : i < n
    · obtain ⟨b, off, rfl, hbw, hcell⟩ := HQ.out.2 i (by rw [HN.out]; exact hlt)
      have cw : wr.cell? ⟨b, off + i, none⟩ = some (.int .u64 (ns.getD i 0)) := (World.cell?_of_block (w := w) (a := ⟨b, off + i, none⟩) (G4.out.block b (by rw [HA.out]; exact hbw))).trans hcell
      have hx : 0 ≤ ns.getD i 0 ∧ ns.getD i 0 < 18446744073709551616 := by
        rw [List.getD_eq_getElem?_getD, List.getElem?_eq_getElem (by rw [HN.out]; exact hlt)]
        exact HQ.out.1 _ (List.getElem_mem _)
      have HST := Kp.mk (prfB_take k n ns i (by rw [HN.out]; exact hlt))
      have HX := Kp.mk hx
      clear hcell hx
      generalize ns.getD i 0 = x at *
      generalize hP : prfB k n (ns.take i) = p0 at *
      have HP := Kp.mk hP
      clear hP
      have hNb : N ≤ 140737488352000 := by have := HNN.out; omega
      go_wp2_with fail
      clear cw
      refine (num_any x 8 wr (Or.inr rfl) HX.out.1 HX.out.2).mono ?_
      rintro r w1 ⟨v1, rfl, h5, h6⟩
      have F1 := Kp.mk h5
      have F2 := Kp.mk h6
      have FO := Kp.mk (ownsRow_below G3.out h6)
      have HS1 : Kp (B ≤ w1.heap.size) := ⟨Nat.le_trans HSz.out.1 h6.size⟩
      clear h5 h6
      go_wp2_with (at_builtin; refine wpList_append_holds rfl _ _ rfl B _ _ _ rfl FO.out _ _ (numL x 8) rfl F1.out ?d0 ?d1 ?_)
      case d0 => rw [numL_len]; omega
      case d1 => exact HS1.out
      intro v2 w2 ho hg
      have hbel : Below B wr w2 := (F2.out.mono HSz.out.1).trans (below_row_grown (Below.refl _ _) HS1.out FO.out hg)
      obtain ⟨L2, hL2⟩ : ∃ L2, L2 = N + 8 := ⟨_, rfl⟩
      have ho2 : w2.ownsRow B 5 1 v2 L2 (bv (prfB k n (ns.take (i + 1)))) := by
        rw [HST.out, hL2]
        rw [numL_len, numL_eight] at ho
        simpa using ho
      obtain ⟨a2, c2, rfl⟩ := row_slice ho2
      have HO2 := Kp.mk ho2
      have HL2 : Kp (L2 = 2 + 8 * (i + 1)) := ⟨by have := HNN.out; omega⟩
      have HG1 := Kp.mk (G1.out.upto hbel (by have := HSz.out.2; have := HB.out; omega))
      have HG2 := Kp.mk (G2.out.upto hbel (by have := HB.out; omega))
      have HG4 : Kp (Below A w w2) := ⟨G4.out.trans (hbel.mono HSz.out.2)⟩
      clear ho hg hbel ho2 hL2
      go_wp2_with fail
      exact ⟨⟨i + 1, L2, a2, c2, by omega, by go_num, rfl, HL2, HG1.out, HG2.out, HO2.out, HG4.out⟩, by simp [intOf]; omega⟩
    · have hge : (n : Int) ≤ i := by omega
      have HI : Kp (ns.take i = ns) := ⟨List.take_of_length_le (by have := HN.out; omega)⟩
      have HO : Kp (HoldsB wr wr.heap.size (.slice a7 N c7) (prfB k n ns)) := ⟨by
        have h := G3.out
        rw [HI.out] at h
        have e : N = (prfB k n ns).length := by rw [prfB_len, HN.out]; have := HNN.out; omega
        have h2 := HoldsB.ofRow (prfB_bytes k n ns HK8.out) (by rw [e] at h; exact h)
        rw [e]
        exact h2⟩
      have HSd : Kp (HoldsB wr wr.heap.size (.slice (some ⟨A, 0, none⟩) 32 32) s) := ⟨by
        have h := HoldsB.ofBytes G1.out HSB.out (by rw [HS.out]; decide)
        rw [HS.out] at h
        exact h⟩
      have hsl := slice37_all A
      clear hlt hi
      go_wp2_with fail
      clear hsl
      refine (rtag_any _ _ _ _ s (prfB k n ns) wr HSd.out HO.out (by rw [HS.out]; omega) (by rw [prfB_len, HN.out]; omega)).mono ?_
      rintro r w3 ⟨rfl, h3⟩
      have HR3 := Kp.mk (G2.out.keep h3)
      have HB3 : Kp (Below A w w3) := ⟨G4.out.trans (h3.mono (by have := HSz.out; omega))⟩
      have HD := Kp.mk (halfL_len (macL_len s (prfB k n ns)))
      clear h3
      obtain ⟨d, hd⟩ : ∃ d, d = halfL (macL s (prfB k n ns)) := ⟨_, rfl⟩
      rw [← hd] at HD ⊢
      have HC := Kp.mk (cells49 HD.out)
      have HZ := Kp.mk (size50 HD.out)
      have HF := Kp.mk (HR3.out.setRow d)
      have HBf := Kp.mk (Below.row HB3.out (g := A + 1) (by omega) (kv .u8 d).toArray)
      have HDD := Kp.mk hd
      clear hd
      go_wp2_with (refine wpList_store_row rfl 32 (.tmp 6) (.tmp 30) rfl (A + 1) (kv .u8 d).toArray rfl rfl 32 _ HR3.out HC.out HZ.out (kv_all _ _) ?_)
      refine bodyPost_ret (v := .agg (kv .u8 d).toArray) ?_ rfl ⟨by rw [HDD.out], by rw [← HA.out]; exact HBf.out⟩
      exact results_cell_row rfl _ _ (A + 1) 32 _ (0, 0) _ rfl HF.out Tryd.underlying32 rfl HC.out
end Go.Proofs.YtahmioiefmheeaaDoor
