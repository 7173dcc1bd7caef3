/-
  mac.Prf.
-/
import Derived.Test.YtahmioiefmheeaaDoorLTags
import Derived.Test.YtahmioiefmheeaaDoorArgs
namespace Go.Proofs.YtahmioiefmheeaaDoor
open Go.RowKit

/-- The bytes of some kind and some numbers. -/
def prfB (k : Int) (n : Nat) (ns : List Int) : List Int := [k, (n : Int) % 256] ++ ns.flatMap be64
theorem flat_len (ns : List Int) : (ns.flatMap be64).length = 8 * ns.length := by
  induction ns with
  | nil => rfl
  | cons x xs ih => rw [List.flatMap_cons, List.length_append, ih, be64_len, List.length_cons]; omega
theorem prfB_len (k : Int) (n : Nat) (ns : List Int) : (prfB k n ns).length = 2 + 8 * ns.length := by
  unfold prfB
  rw [List.length_append, flat_len]
  rfl
theorem prfB_take (k : Int) (n : Nat) (ns : List Int) (i : Nat) (h : i < ns.length) : prfB k n (ns.take (i + 1)) = prfB k n (ns.take i) ++ be64 (ns.getD i 0) := by
  unfold prfB
  rw [take_succ_get h, List.flatMap_append, ← List.append_assoc]
  simp
theorem prfB_bytes (k : Int) (n : Nat) (ns : List Int) (h : 0 ≤ k ∧ k ≤ 255) : Bytes (prfB k n ns) := by
  intro x hx
  unfold prfB at hx
  rcases List.mem_append.1 hx with hx | hx
  · simp at hx
    rcases hx with rfl | rfl
    · exact h
    · omega
  · obtain ⟨y, _, hy⟩ := List.mem_flatMap.1 hx
    exact be64_bytes y x hy
theorem be64_take (x : Int) (j : Nat) (h : j < 8) : (be64 x).take (j + 1) = (be64 x).take j ++ [x / 2 ^ (56 - 8 * j) % 256] := by
  rw [← be64_get x j h, take_succ_get (by rw [be64_len]; exact h)]
/-- A literal of two bytes. -/
theorem ownsRow_two (w : World) (x y : Int) : (w.alloc (.cells #[.int .u8 x, .int .u8 y] 5)).ownsRow w.heap.size 5 1 (.slice (some ⟨w.heap.size, 0, none⟩) 2 2) 2 (bv [x, y]) :=
  ⟨rfl, .inr ⟨w.heap.size, 2, _, rfl, Nat.le_refl _, heap_alloc_new w _, Nat.le_refl _, by unfold maxLen; omega, rfl, rfl⟩⟩
abbrev z118 : Obj := .cells (kv .u8 (fill 32 [])).toArray 118
theorem slice118_all (b : Nat) (w : World) : (Instr.sliceAt 118 (.pointer (some ⟨b, 0, none⟩)) none none none).run Tryd.prog w = .ok (.slice (some ⟨b, 0, none⟩) 32 32) w := slice25_all b w
set_option maxRecDepth 100000 in
set_option maxHeartbeats 1000000 in
theorem prf_any (s : List Int) (k : Int) (n cap : Nat) (a : Option Addr) (ns : List Int) (w : World) (hk : KonIs w) (hs : s.length = 32) (hsb : Bytes s) (hk8 : 0 ≤ k ∧ k ≤ 255) (hn : ns.length = n) (hq : HoldsQ w a ns) (hlen : 8 * n ≤ 140737488351232) :
    Calls Tryd.prog 26 #[.agg (kv .u8 s).toArray, .int .u8 k, .slice a n cap] w fun r w' => r = .returned (.agg (kv .u8 (halfL (macL s (prfB k n ns)))).toArray) ∧ Below w.heap.size w w' := by
  have HK := Kp.mk hk
  have HS := Kp.mk hs
  have HSB := Kp.mk hsb
  have HK8 := Kp.mk hk8
  have HN := Kp.mk hn
  have HQ := Kp.mk hq
  clear hk hs hsb hn hq
  have k0 := hk8.1
  have k1 := hk8.2
  clear hk8
  go_enter Tryd.func26, Tryd.ntmps26
  go_wp2_with fail
  obtain ⟨A, hA⟩ : ∃ A, A = w.heap.size := ⟨_, rfl⟩
  have HA := Kp.mk hA
  rw [← hA]
  refine wp_world (fun W => Row W A 118 .u8 s ∧ Row W (A + 1) 33 .u8 (fill 16 []) ∧ W.ownsRow (A + 1 + 1) 5 1 (.slice (some ⟨A + 1 + 1, 0, none⟩) 2 2) 2 (bv (prfB k n [])) ∧ Below A w W)
    ⟨Blk.old (Blk.old (Blk.newAt _ hA) _) _, Blk.old (Blk.newAt _ (by simp [hA])) _, ?_, by rw [hA]; exact more (more (more (Below.refl _ _) _) _) _⟩ ?_
  · have h := ownsRow_two ((w.alloc (.cells (kv .u8 s).toArray 118)).alloc z50) k ((n : Int) % 256)
    have e : ((w.alloc (.cells (kv .u8 s).toArray 118)).alloc z50).heap.size = A + 1 + 1 := by simp [hA]
    rw [e] at h
    exact h
  generalize hB : A + 1 + 1 = B
  have HB := Kp.mk hB
  clear hA hB
  rintro W ⟨h1, h2, h3, h4⟩
  have G1 := Kp.mk h1
  have G2 := Kp.mk h2
  have G3 := Kp.mk h3
  have G4 := Kp.mk h4
  clear h1 h2 h3 h4
  go_loopw [7, 18] (fun s7 c wr => ∃ (i N : Nat) (a7 : Option Addr) (c7 : Nat), i ≤ n ∧ c = .int .i64 i ∧ s7 = .slice a7 N c7 ∧ Kp (N = 2 + 8 * i) ∧ Row wr A 118 .u8 s ∧ Row wr (A + 1) 33 .u8 (fill 16 []) ∧ wr.ownsRow B 5 1 (.slice a7 N c7) N (bv (prfB k n (ns.take i))) ∧ Below A w wr) (fun _ c _ => n - (intOf c).toNat)
  case atStart => exact ⟨0, 2, _, _, by omega, rfl, rfl, ⟨rfl⟩, G1.out, G2.out, by rw [List.take_zero]; exact G3.out, G4.out⟩
  case round =>
    obtain ⟨i, N, a7, c7, hi, rfl, rfl, HNN, h1, h2, h3, h4⟩ := hrel
    clear G1 G2 G3 G4
    have G1 := Kp.mk h1
    have G2 := Kp.mk h2
    have G3 := Kp.mk h3
    have G4 := Kp.mk h4
    clear h1 h2 h3 h4
    by_cases hlt : i < n
    · obtain ⟨b, off, rfl, hbw, hcell⟩ := HQ.out.2 i (by rw [HN.out]; exact hlt)
      have cw : wr.cell? ⟨b, off + i, none⟩ = some (.int .u64 (ns.getD i 0)) := (World.cell?_of_block (w := w) (a := ⟨b, off + i, none⟩) (G4.out.block b (by rw [HA.out]; exact hbw))).trans hcell
      have hx : 0 ≤ ns.getD i 0 ∧ ns.getD i 0 < 18446744073709551616 := by
        rw [List.getD_eq_getElem?_getD, List.getElem?_eq_getElem (by rw [HN.out]; exact hlt)]
        exact HQ.out.1 _ (List.getElem_mem _)
      have x0 := hx.1
      have x1 := hx.2
      have HST := Kp.mk (prfB_take k n ns i (by rw [HN.out]; exact hlt))
      clear hcell hx
      generalize ns.getD i 0 = x at *
      generalize hP : prfB k n (ns.take i) = p0 at *
      have HP := Kp.mk hP
      clear hP
      have hNb : N ≤ 140737488352000 := by have := HNN.out; omega
      go_wp2_with fail
      clear cw
      go_loopw [7, 22] (fun s7 c wq => ∃ (j L : Nat) (a8 : Option Addr) (c8 : Nat), j ≤ 8 ∧ c = .int .i64 j ∧ s7 = .slice a8 L c8 ∧ Kp (L = N + j) ∧ wq.ownsRow B 5 1 (.slice a8 L c8) L (bv (p0 ++ (be64 x).take j)) ∧ Below B wr wq) (fun _ c _ => 8 - (intOf c).toNat)
      case atStart => exact ⟨0, N, _, _, by omega, rfl, rfl, ⟨rfl⟩, by simpa using G3.out, Below.refl _ _⟩
      case round =>
        obtain ⟨j, L, a8, c8, hj, rfl, rfl, HL, h5, h6⟩ := hrel
        have F1 := Kp.mk h5
        have F2 := Kp.mk h6
        clear h5 h6
        have hLb : L ≤ 140737488352010 := by have := HL.out; omega
        have HSz : Kp (B ≤ wr.heap.size ∧ A ≤ B) := ⟨by have h := F2.out.size; have := G2.out.lt; have := HB.out; omega, by have := HB.out; omega⟩
        by_cases hl8 : j < 8
        · have HT := Kp.mk (be64_take x j hl8)
          go_wp2_with (at_builtin; refine wpList_append_holds rfl _ _ rfl B _ _ _ rfl (F1.out.alloc _) _ _ [x / 2 ^ (56 - 8 * j) % 256] rfl (one_holds wr _ (by omega)) ?d0 ?d1 ?_)
          case d0 => simp; omega
          case d1 => have := HSz.out.1; simp; omega
          intro v2 w2 ho hg
          have hbel : Below B _ w2 := below_row_grown (F2.out.alloc HSz.out.1 _) (by have := HSz.out.1; simp; omega) (F1.out.alloc _) hg
          obtain ⟨L2, hL2⟩ : ∃ L2, L2 = L + 1 := ⟨_, rfl⟩
          have ho2 : w2.ownsRow B 5 1 v2 L2 (bv (p0 ++ (be64 x).take (j + 1))) := by
            rw [HT.out, ← List.append_assoc, hL2]
            simpa using ho
          obtain ⟨a2, c2, rfl⟩ := row_slice ho2
          have HO2 := Kp.mk ho2
          have HB2 := Kp.mk hbel
          have HL2 : Kp (L2 = N + (j + 1)) := ⟨by have := HL.out; omega⟩
          clear ho hg hbel ho2 hL2
          go_wp2_with fail
          exact ⟨⟨j + 1, L2, a2, c2, by omega, by go_num, rfl, HL2, HO2.out, HB2.out⟩, by simp [intOf]; omega⟩
        · have HJ : Kp (j = 8) := ⟨by omega⟩
          have hge : 8 ≤ (j : Int) := by omega
          have HX : Kp (wr.ownsRow B 5 1 (.slice a8 L c8) L (bv (prfB k n (ns.take (i + 1))))) := ⟨by
            have h := F1.out
            rw [HJ.out, List.take_of_length_le (by rw [be64_len]; omega)] at h
            rw [HST.out]
            exact h⟩
          have HG1 := Kp.mk (G1.out.upto F2.out (by have := HSz.out.2; have := HB.out; omega))
          have HG2 := Kp.mk (G2.out.upto F2.out (by have := HB.out; omega))
          have HG4 : Kp (Below A w wr) := ⟨G4.out.trans (F2.out.mono HSz.out.2)⟩
          have HL2 : Kp (L = 2 + 8 * (i + 1)) := ⟨by have := HL.out; have := HJ.out; have := HNN.out; omega⟩
          clear hl8 hj
          go_wp2_with fail
          exact ⟨⟨i + 1, L, a8, c8, by omega, by go_num, rfl, HL2, HG1.out, HG2.out, HX.out, HG4.out⟩, by simp [intOf]; omega⟩
    · have hge : (n : Int) ≤ i := by omega
      have HI : Kp (ns.take i = ns) := ⟨List.take_of_length_le (by have := HN.out; omega)⟩
      have HSz : Kp (B ≤ wr.heap.size ∧ A ≤ B) := ⟨by have := G2.out.lt; have := HB.out; omega, by have := HB.out; omega⟩
      have HO : Kp (HoldsB wr wr.heap.size (.slice a7 N c7) (prfB k n ns)) := ⟨by
        have h := G3.out
        rw [HI.out] at h
        have e : N = (prfB k n ns).length := by rw [prfB_len, HN.out]; have := HNN.out; omega
        have h2 := HoldsB.ofRow (prfB_bytes k n ns HK8.out) (by rw [e] at h; exact h)
        rw [e]
        exact h2⟩
      have HSd : Kp (HoldsB wr wr.heap.size (.slice (some ⟨A, 0, none⟩) 32 32) s) := ⟨by
        have h := HoldsB.ofBytes G1.out HSB.out (by rw [HS.out]; decide)
        rw [HS.out] at h
        exact h⟩
      have HKw : Kp (KonIs wr) := ⟨HK.out.keep (by rw [← HA.out]; exact G4.out)⟩
      have hsl := slice118_all A
      clear hlt hi
      go_wp2_with fail
      clear hsl
      refine (tag_any _ _ _ _ s (prfB k n ns) wr HKw.out HSd.out HO.out (by rw [HS.out]; omega) (by rw [prfB_len, HN.out]; omega)).mono ?_
      rintro r w3 ⟨rfl, h3⟩
      have HR3 := Kp.mk (G2.out.keep h3)
      have HB3 : Kp (Below A w w3) := ⟨G4.out.trans (h3.mono (by have := HSz.out; omega))⟩
      have HD := Kp.mk (halfL_len (macL_len s (prfB k n ns)))
      clear h3
      obtain ⟨d, hd⟩ : ∃ d, d = halfL (macL s (prfB k n ns)) := ⟨_, rfl⟩
      rw [← hd] at HD ⊢
      have HC := Kp.mk (cells50 HD.out)
      have HZ := Kp.mk (size50 HD.out)
      have HF := Kp.mk (HR3.out.setRow d)
      have HBf := Kp.mk (Below.row HB3.out (g := A + 1) (by omega) (kv .u8 d).toArray)
      have HDD := Kp.mk hd
      clear hd
      go_wp2_with (refine wpList_store_row rfl 33 (.tmp 6) (.tmp 38) rfl (A + 1) (kv .u8 d).toArray rfl rfl 33 _ HR3.out HC.out HZ.out (kv_all _ _) ?_)
      refine bodyPost_ret (v := .agg (kv .u8 d).toArray) ?_ rfl ⟨by rw [HDD.out], by rw [← HA.out]; exact HBf.out⟩
      exact results_cell_row rfl _ _ (A + 1) 33 _ (0, 0) _ rfl HF.out Tryd.underlying33 rfl HC.out
end Go.Proofs.YtahmioiefmheeaaDoor
