/-
  The law OtsRecovers, walked.
  What the listed variable holds gives the walks: the standard's constants. The door's own heap meets the condition.
  Arguments that came in: an array of bytes by value; a slice of numbers of 64 bits.
  An array of short sums that came in by value.
-/
import Derived.Test.YtpljjmdkagbjpaaDoorOr11
import Derived.Test.YtpljjmdkagbjpaaDoorRows
import Derived.ProofKit
import Derived.LaidMore
import Derived.OpenShut
import Derived.Stop.Joined
import Derived.SizedLaws
import Derived.LaidLaws
import Derived.WideWitness
namespace Go.Proofs.YtpljjmdkagbjpaaDoor
open Go.RowKit

set_option maxRecDepth 100000 in
set_option maxHeartbeats 4000000 in
theorem recovers_core (d x : Int) (m S : List Int) (w : World) (hk : KonIs w) (hx : 0 ≤ x ∧ x < 4294967296) (hm : m.length = 16) (hmb : Bytes m) (hS : S.length = 1088) (hSb : Bytes S) :
    Calls Tryd.prog 5 #[nameV d x, dgV m, .agg (kv .u8 S).toArray] w fun e w' => e = .returned (.bool true) ∧ Below w.heap.size w w' := by
  have HK := Kp.mk hk
  have HX := Kp.mk hx
  have HM := Kp.mk (And.intro hm hmb)
  have HS := Kp.mk (And.intro hS hSb)
  have hC := fun (w : World) => box_row (t := 43) (cs := kv .u8 S) (cellsT43 hS) w
  have hC2 := fun (w : World) => box_row (t := 25) (cs := kv .u8 m) (cellsT25 hm) w
  have HC43 := Kp.mk (cellsT43 hS)
  have HC25 := Kp.mk (cellsT25 hm)
  obtain ⟨q0, hq⟩ : ∃ q, q = shortL (wholeT d x (recL d x m S 68)) := ⟨_, rfl⟩
  have HQ : Kp (shortL (wholeT d x (recL d x m S 68)) = q0) := ⟨hq.symm⟩
  have HQl : Kp (q0.length = 16) := ⟨by rw [hq]; exact shortL_len _⟩
  have HQb : Kp (Bytes q0) := ⟨by rw [hq]; exact shortL_bytes _⟩
  clear hk hx hm hmb hS hSb hq
  go_enter Tryd.func5, Tryd.ntmps5
  obtain ⟨A, hA⟩ : ∃ A, A = w.heap.size := ⟨_, rfl⟩
  have HA := Kp.mk hA
  go_wp2_with (first
    | (refine wpList_box_eq rfl 43 (.tmp 2) rfl _ rfl _ _ (hC _) ?_)
    | (refine wpList_box_eq rfl 25 (.tmp 1) rfl _ rfl _ _ (hC2 _) ?_)
    | (refine wpList_load_row rfl 24 (.tmp 3) rfl w.heap.size rfl 24 _ (0, 0) _ (Blk.old (Blk.old (Blk.newAt _ rfl) _) _) Tryd.underlying24 rfl (cellsN24 d x) ?_)
    | (refine wpList_load_row rfl 25 (.tmp 4) rfl (w.heap.size + 1) rfl 25 (kv .u8 m).toArray (0, 0) _ (Blk.old (Blk.newAt _ (by simp)) _) Tryd.underlying25 rfl HC25.out ?_)
    | (refine wpList_load_row rfl 43 (.tmp 5) rfl (w.heap.size + 1 + 1) rfl 43 (kv .u8 S).toArray (0, 0) _ (Blk.newAt _ (by simp)) Tryd.underlying43 rfl HC43.out ?_))
  rw [← hA]
  refine calls_world (fun W => Blk W A (.cells #[.int .i64 d, .int .u32 x] 24) ∧ Row W (A + 1) 25 .u8 m ∧ Row W (A + 2) 43 .u8 S ∧ Below A w W) ⟨Blk.old (Blk.old (Blk.newAt _ hA) _) _, Blk.old (Blk.newAt _ (by simp [hA])) _, Blk.newAt _ (by simp [hA]), by rw [hA]; exact more (more (more (Below.refl _ _) _) _) _⟩ ?_
  rw [show A + 1 + 1 = A + 2 from rfl]
  clear hA hC hC2
  rintro W ⟨h1, h2, h3, h4⟩
  refine (rrecover_any d x m S W HX.out HM.out.1 HM.out.2 HS.out.1 HS.out.2).mono ?_
  rintro q w1 ⟨v1, rfl, _, hb⟩
  rw [HQ.out]
  obtain ⟨D, hD⟩ : ∃ D, D = w1.heap.size := ⟨_, rfl⟩
  have HD := Kp.mk hD
  have HC := Kp.mk (cellsT25 HQl.out)
  have HZ := Kp.mk (size50 HQl.out)
  have C1 := Kp.mk (Blk.keep h1 hb)
  have C2 := Kp.mk (h2.keep hb)
  have C3 := Kp.mk (h3.keep hb)
  have C4 : Kp (Below A w w1) := ⟨h4.trans (hb.mono (Nat.le_of_lt (Blk.lt h1)))⟩
  have hAD : A + 2 < D := by rw [hD]; exact C3.out.lt
  obtain ⟨V, hV⟩ : ∃ V, V = (w1.alloc z16r).setRow D (kv .u8 q0).toArray := ⟨_, rfl⟩
  have G1 : Kp (Blk V A (.cells #[.int .i64 d, .int .u32 x] 24)) := ⟨by rw [hV]; exact (setRow_other _ D A _ (by omega)).trans (Blk.old C1.out _)⟩
  have G2 : Kp (Row V (A + 1) 25 .u8 m) := ⟨by rw [hV]; exact Row.otherRow (Row.alloc C2.out _) (by omega) _⟩
  have G3 : Kp (Row V (A + 2) 43 .u8 S) := ⟨by rw [hV]; exact Row.otherRow (Row.alloc C3.out _) (by omega) _⟩
  have G5 : Kp (Row V D 25 .u8 q0) := ⟨by rw [hV]; exact Row.setRow (k := .u8) (l := fill 16 []) (Blk.newAt z16r hD) _⟩
  have G4 : Kp (Below A w V) := ⟨by rw [hV]; exact Below.row (C4.out.alloc (by have := C1.out.lt; omega) _) (by omega) _⟩
  have HV := Kp.mk hV.symm
  clear h1 h2 h3 h4 hb hV C1 C2 C3 C4
  go_wp2_with (rw [← hD]; clear hD; refine wpList_store_row rfl 25 (.tmp 7) (.tmp 14) rfl D (kv .u8 q0).toArray rfl rfl 25 _ (Blk.newAt z16r HD.out) HC.out HZ.out (kv_all _ _) ?_; refine wpl_world (· = V) HV.out ?_; clear HV; intro W0 e0; rw [e0]; clear e0)
  refine wp_region_pred (fun w' => Blk w' A (.cells #[.int .i64 d, .int .u32 x] 24) ∧ Row w' (A + 1) 25 .u8 m ∧ Row w' (A + 2) 43 .u8 S ∧ Row w' D 25 .u8 q0 ∧ Below A w w') [0, 1, 2, 3, 4, 5, 6, 7, 8, 9, 10] [11]
    (fun ι w' v => match ι with
      | 2 | 3 => v = nameV d x
      | 4 => v = dgV m
      | 5 | 6 => v = .agg (kv .u8 S).toArray
      | 7 | 8 => v = dgV q0
      | _ => v = .bool true)
    [[], [(0, some 16)], [(1, some 17)], [(1, some 17), (2, some 18)], [(1, some 17)], [(1, some 17)], [(1, some 17), (3, some 19), (5, some 21)], [(1, some 17), (3, some 19), (4, some 20), (6, some 22)], [(1, some 17)], [(1, some 17), (7, some 23), (8, some 24)], [(1, some 17), (9, some 25)]]
    [(0, some 16), (1, some 17), (2, some 18), (3, some 19), (4, some 20), (5, some 21), (6, some 22), (7, some 23), (8, some 24), (9, some 25), (10, some 26)]
    (by kernel_rfl) (by kernel_rfl) (by kernel_rfl) (by kernel_rfl) (by kernel_rfl) (by kernel_rfl) (by decide) (by decide) (fun w1 w2 h hb => ⟨h.1.keep hb, h.2.1.keep hb, h.2.2.1.keep hb, h.2.2.2.1.keep hb, h.2.2.2.2.trans (hb.mono (Nat.le_of_lt h.1.lt))⟩) ?_ ⟨G1.out.draw, G2.out.drew, G3.out.drew, G5.out.drew, G4.out.drew⟩ ?_ ?_
  · intro ι w1 w2 v h hb
    match ι, h with
    | 0, h => exact h
    | 1, h => exact h
    | 2, h => exact h
    | 3, h => exact h
    | 4, h => exact h
    | 5, h => exact h
    | 6, h => exact h
    | 7, h => exact h
    | 8, h => exact h
    | 9, h => exact h
    | 10, h => exact h
    | _ + 11, h => exact h
  · refine ⟨fun γ wx hS h => ?_, fun γ wx hS h => ?_, fun γ wx hS h => ?_, fun γ wx hS h => ?_, fun γ wx hS h => ?_, fun γ wx hS h => ?_, fun γ wx hS h => ?_, fun γ wx hS h => ?_, fun γ wx hS h => ?_, fun γ wx hS h => ?_, fun γ wx hS h => ?_, trivial⟩
    · refine ⟨_, rfl, Or.inl ⟨rfl, predRun_call (f := 8) (args := #[]) (by simp only [putE]; go_simp) ?_⟩⟩
      exact (awake_any wx).mono fun e w2 ⟨h1, h2⟩ => ⟨_, h1, rfl, h2⟩
    · have h0 := h
      have e0 : γ 0 = .bool true := h0
      refine ⟨_, rfl, Or.inl ⟨rfl, predRun_value (v := .bool true) (by simp only [putE, e0]; first | rfl | (go_simp; done) | (go_simp; with_reducible rfl) | (go_simp; rfl)) rfl⟩⟩
    · have h1 := h
      have e1 : γ 1 = .bool true := h1
      refine ⟨_, rfl, Or.inl ⟨(by simp only [putE, e1]; first | kernel_rfl | rfl), predRun_value (exec_load_blk 24 (.tmp 3) rfl (A) rfl 24 _ (0, 0) _ hS.1 Tryd.underlying24 rfl (cellsN24 d x)) rfl⟩⟩
    · obtain ⟨h1, h2⟩ := h
      have e1 : γ 1 = .bool true := h1
      have e2 : γ 2 = nameV d x := h2
      refine ⟨_, rfl, Or.inl ⟨(by simp only [putE, e1, e2]; first | kernel_rfl | rfl), predRun_call (f := 10) (args := #[nameV d x]) (by simp only [putE, e1, e2]; go_simp) ?_⟩⟩
      exact (to_any d x wx).mono fun e w2 ⟨h1, h2⟩ => ⟨_, h1, rfl, h2⟩
    · have h1 := h
      have e1 : γ 1 = .bool true := h1
      refine ⟨_, rfl, Or.inl ⟨(by simp only [putE, e1]; first | kernel_rfl | rfl), predRun_value (exec_load_blk 25 (.tmp 4) rfl (A + 1) rfl 25 _ (0, 0) _ hS.2.1 Tryd.underlying25 rfl (cellsT25 HM.out.1)) rfl⟩⟩
    · have h1 := h
      have e1 : γ 1 = .bool true := h1
      refine ⟨_, rfl, Or.inl ⟨(by simp only [putE, e1]; first | kernel_rfl | rfl), predRun_value (exec_load_blk 43 (.tmp 5) rfl (A + 2) rfl 43 _ (0, 0) _ hS.2.2.1 Tryd.underlying43 rfl (cellsT43 HS.out.1)) rfl⟩⟩
    · obtain ⟨h1, h3, h5⟩ := h
      have e1 : γ 1 = .bool true := h1
      have e3 : γ 3 = nameV d x := h3
      have e5 : γ 5 = .agg (kv .u8 S).toArray := h5
      refine ⟨_, rfl, Or.inl ⟨(by simp only [putE, e1, e3, e5]; first | kernel_rfl | rfl), predRun_call (f := 20) (args := #[.agg (kv .u8 S).toArray]) (by simp only [putE, e1, e3, e5]; go_simp) ?_⟩⟩
      exact (toSig_any S wx HS.out.1 HS.out.2).mono fun e w2 ⟨h1, h2⟩ => ⟨_, h1, rfl, h2⟩
    · obtain ⟨h1, h3, h4, h6⟩ := h
      have e1 : γ 1 = .bool true := h1
      have e3 : γ 3 = nameV d x := h3
      have e4 : γ 4 = dgV m := h4
      have e6 : γ 6 = .agg (kv .u8 S).toArray := h6
      refine ⟨_, rfl, Or.inl ⟨(by simp only [putE, e1, e3, e4, e6]; first | kernel_rfl | rfl), predRun_call (f := 18) (args := #[nameV d x, dgV m, .agg (kv .u8 S).toArray]) (by simp only [putE, e1, e3, e4, e6]; go_simp) ?_⟩⟩
      exact (recover_any d x m S wx (HK.out.keep (by rw [← HA.out]; exact hS.2.2.2.2)) HX.out HM.out.1 HM.out.2 HS.out.1 HS.out.2).mono fun e w2 ⟨h1, h2⟩ => ⟨_, h1, (show dgV (shortL (wholeT d x (recL d x m S 68))) = dgV q0 by rw [HQ.out]), h2⟩
    · have h1 := h
      have e1 : γ 1 = .bool true := h1
      refine ⟨_, rfl, Or.inl ⟨(by simp only [putE, e1]; first | kernel_rfl | rfl), predRun_value (exec_load_blk 25 (.tmp 7) rfl (D) rfl 25 _ (0, 0) _ hS.2.2.2.1 Tryd.underlying25 rfl (cellsT25 HQl.out)) rfl⟩⟩
    · obtain ⟨h1, h7, h8⟩ := h
      have e1 : γ 1 = .bool true := h1
      have e7 : γ 7 = dgV q0 := h7
      have e8 : γ 8 = dgV q0 := h8
      refine ⟨_, rfl, Or.inl ⟨(by simp only [putE, e1, e7, e8]; first | kernel_rfl | rfl), predRun_value (v := .bool true) (by simp only [putE, e1, e7, e8]; have hg := eqg27 q0 q0; have he := eql27 HQb.out HQl.out; first | rfl | (go_simp; done) | (go_simp; with_reducible rfl) | (go_simp; rfl)) rfl⟩⟩
    · obtain ⟨h1, h9⟩ := h
      have e1 : γ 1 = .bool true := h1
      have e9 : γ 9 = .bool true := h9
      refine ⟨_, rfl, Or.inl ⟨rfl, predRun_value (v := .bool true) (by simp only [putE, e1, e9]; first | rfl | (go_simp; done) | (go_simp; with_reducible rfl) | (go_simp; rfl)) rfl⟩⟩
  · intro γ w9 hS h
    have h10 : γ 10 = .bool true := h.2.2.2.2.2.2.2.2.2.2
    have HB := Kp.mk hS.2.2.2.2
    simp only [putE, Act.put, List.setIfInBounds_toArray, List.set_cons_zero, List.set_cons_succ]
    rw [h10]
    clear h hS h10 G1 G2 G3 G4 G5
    refine wpOps_step rfl rfl ?_
    refine wp_assign_end rfl rfl ?_
    refine wpOps_done ?_
    go_wp2_with fail
    go_ret
    exact ⟨rfl, by rw [← HA.out]; exact HB.out⟩
theorem otsRecovers_walk (x0_0 x0_1 : Int) (x1 x2 : List Int) (w : World) (_w0_0 : (Lit.int .i64 x0_0).wf = true) (w0_1 : (Lit.int .u32 x0_1).wf = true) (l1 : x1.length = 16) (b1 : Bytes x1) (l2 : x2.length = 1088) (b2 : Bytes x2) (hk : KonIs w) :
    Calls Tryd.prog 5 #[.agg #[.int .i64 x0_0, .int .u32 x0_1], .agg (kv .u8 x1).toArray, .agg (kv .u8 x2).toArray] w fun e w' => e = .returned (.bool true) ∧ Below w.heap.size w w' :=
  recovers_core x0_0 x0_1 x1 x2 w hk (by have hb1 : IntKind.u32.min = 0 := rfl; have hb2 : IntKind.u32.max = 4294967295 := rfl; simp [Lit.wf, hb1, hb2] at w0_1; omega) l1 b1 l2 b2
end Go.Proofs.YtpljjmdkagbjpaaDoor

namespace Go.Proofs.YtpljjmdkagbjpaaDoor
open Go.ChangeShapes Go.WideShapes Go.ChangeAt Go.RowKit

abbrev laidL : List (String × DataW Unit) := Rows.otsLinksRow.laid
theorem gKon : Tryd.prog.globalNamed ((Rows.otsLinksRow.laid.map (·.1)).headD default) = some 0 := by kernel_rfl
theorem tKon : (Tryd.prog.globals[0]?).map (·.type) = some 147 := by kernel_rfl
set_option maxRecDepth 100000 in
theorem laid_kon : (Rows.laid_fingerpost_sha_constants : DataW Unit) = .agg (kon.map fun k => .lit (.int .u32 k)) := rfl
set_option maxRecDepth 100000 in
theorem door_met (os : Os) (args : Array Value) : laidMetH Tryd.prog laidL ((World.doorLaid Tryd.prog 400 os).forCall (fun _ _ => 0) ⟨#[], args, []⟩).memory :=
  laidMetH_of_parts3 (fuel := 8) (laidMet_of_run' 8 (by kernel_rfl) (by kernel_rfl)) (by kernel_rfl) (by kernel_rfl)
theorem kon_of_laid {W : World} (h : laidMetH Tryd.prog laidL W) : KonIs W := by
  rw [MakeChecks.laidMetH_plain _ _ _ (by kernel_rfl)] at h
  obtain ⟨ps, ⟨g0, t0, cs0, f0, p0, q0, hg0, ht0, hv0, hd0, _, _⟩, _⟩ := h
  obtain rfl := Option.some.inj (gKon.symm.trans hg0)
  obtain rfl := Option.some.inj (tKon.symm.trans ht0)
  obtain ⟨xs, m, rfl, hx, hlen, hn, hel⟩ := DataW.trod_array Tryd.underlying147 hd0
  have c67 : Tryd.prog.cellsOf 22 = 1 := by kernel_rfl
  simp only [Prod.mk.injEq] at hx
  have hx1 := hx.1
  rw [laid_kon] at hx1
  simp only [DataW.agg.injEq] at hx1
  intro i hi
  have he := hel i hi
  rw [c67, Nat.mul_one] at he
  have hix : i < xs.length := by omega
  rw [List.getElem?_eq_getElem hix] at he
  obtain ⟨k, e1, e2, _⟩ := DataW.trod_int Tryd.underlying22 he
  have hk : (xs.map (·.1))[i]? = some (DataW.lit (.int .u32 k)) := by
    rw [List.getElem?_map, List.getElem?_eq_getElem hix]
    exact congrArg some (congrArg Prod.fst e2)
  rw [← hx1, List.getElem?_map, List.getElem?_eq_getElem (by rw [kon_len]; exact hi)] at hk
  simp at hk
  rw [World.var?_cell hg0 hv0 i]
  have h3 : cs0.toList[i]? = some (.int .u32 k) := by
    have h4 := congrArg (fun l : List Value => l[0]?) e1
    simp only [List.getElem?_take, List.getElem?_drop, Nat.lt_one_iff, if_true, Nat.add_zero] at h4
    simpa using h4
  rw [Array.getElem?_toList] at h3
  rw [h3, ← hk, List.getD_eq_getElem?_getD, List.getElem?_eq_getElem (by rw [kon_len]; exact hi)]
  rfl
end Go.Proofs.YtpljjmdkagbjpaaDoor

namespace Go.Proofs.YtpljjmdkagbjpaaDoor
open Go.ChangeShapes Go.WideShapes Go.ChangeAt Go.RowKit Go.Deep

theorem okWide_arr {P : Program} {w : World} {r : Reach} {base : Nat} {t e : TypeId} {n : Nat} {v : Value} (ht : P.underlying t = some (.array n e)) (h : Value.okWide P w r base t v) : ∃ cs, v = .agg cs ∧ cs.size = P.cellsOf t := by
  simp only [Value.okWide, ht] at h
  obtain ⟨cs, h1, h2, _⟩ := h
  exact ⟨cs, h1, h2⟩
set_option maxRecDepth 100000 in
/-- An array of bytes that came in by value. -/
theorem open_bytes {H : Type} {enc : TypeId × Value → H} {W : World} {r : Reach} {base b0 : Nat} {spare held : Bool} {t : TypeId} {n : Nat} {v : Value} {d : DataW H} {p : List MemPlace}
    (ht : Tryd.prog.underlying t = some (.array n 5)) (hC : Tryd.prog.cellsOf t = n) (hv : Value.okWide Tryd.prog W r b0 t v) (h : DataW.Trod enc Tryd.prog W base (fun _ => spare) held t v d p) :
    ∃ l : List Int, v = .agg (kv .u8 l).toArray ∧ l.length = n ∧ Bytes l := by
  have c5 : Tryd.prog.cellsOf 5 = 1 := by kernel_rfl
  obtain ⟨cs, rfl, hsz⟩ := okWide_arr ht hv
  obtain ⟨fuel, hf⟩ := h
  obtain ⟨xs, m, rfl, hx, hlen, hn, hel⟩ := DataW.trod_array ht hf
  have hcl : cs.size = n := hsz.trans hC
  have each : ∀ i, i < n → ∃ z : Int, cs.toList[i]? = some (.int .u8 z) ∧ 0 ≤ z ∧ z ≤ 255 := fun i hi => by
    have he := hel i hi
    rw [c5, Nat.mul_one] at he
    rw [List.getElem?_eq_getElem (by omega)] at he
    obtain ⟨k, e1, _, wk⟩ := DataW.trod_int Tryd.underlying5 he
    have h1 : IntKind.u8.min = 0 := rfl
    have h2 : IntKind.u8.max = 255 := rfl
    simp [Lit.wf, h1, h2] at wk
    refine ⟨k, ?_, wk⟩
    have h4 := congrArg (fun l : List Value => l[0]?) e1
    simp only [List.getElem?_take, List.getElem?_drop, Nat.lt_one_iff, if_true, Nat.add_zero] at h4
    simpa [Value.cells] using h4
  obtain ⟨f, hf'⟩ : ∃ f : Nat → Int, ∀ i, i < n → cs.toList[i]? = some (.int .u8 (f i)) ∧ 0 ≤ f i ∧ f i ≤ 255 := by
    refine ⟨fun i => if h : i < n then Classical.choose (each i h) else 0, fun i hi => ?_⟩
    simp only [hi, dif_pos]
    exact Classical.choose_spec (each i hi)
  refine ⟨(List.range n).map f, ?_, by simp, fun z hz => ?_⟩
  · congr 1
    apply Array.toList_inj.1
    apply List.ext_getElem?
    intro i
    by_cases hi : i < n
    · rw [(hf' i hi).1]
      simp [List.getElem?_range hi]
    · rw [List.getElem?_eq_none (by simp; omega), List.getElem?_eq_none (by simp; omega)]
  · obtain ⟨i, hi, rfl⟩ := List.mem_map.1 hz
    exact (hf' i (List.mem_range.1 hi)).2
/-- The slice's cells are the numbers ns, each of 64 bits. -/
def HoldsQ (w : World) (a : Option Addr) (ns : List Int) : Prop :=
  (∀ x ∈ ns, 0 ≤ x ∧ x < 18446744073709551616) ∧ ∀ i, i < ns.length → ∃ b off, a = some ⟨b, off, none⟩ ∧ b < w.heap.size ∧ w.cell? ⟨b, off + i, none⟩ = some (.int .u64 (ns.getD i 0))
theorem HoldsQ.keep {w w' : World} {a : Option Addr} {ns : List Int} (h : HoldsQ w a ns) (hb : Below w.heap.size w w') : HoldsQ w' a ns := by
  refine ⟨h.1, fun i hi => ?_⟩
  obtain ⟨b, off, e1, e2, e3⟩ := h.2 i hi
  exact ⟨b, off, e1, Nat.lt_of_lt_of_le e2 hb.size, (hb.cell (p := ⟨b, off + i, none⟩) e2).trans e3⟩
/-- A slice of numbers that came in. -/
theorem row_nums {H : Type} {enc : TypeId × Value → H} {W : World} {a : Option Addr} {len cap : Nat} {d : DataW H} {p : List MemPlace}
    (k : DataW.Trod enc Tryd.prog W 0 (fun _ => true) true 131 (.slice a len cap) d p) : ∃ ns, ns.length = len ∧ HoldsQ W a ns := by
  obtain ⟨fuel, hf⟩ := k
  rcases open_slice1 Tryd.underlying131 (by kernel_rfl) hf with ⟨hcs, _⟩ | ⟨x, l, c, m, n, V, D, Pl, hcs, hb, hl, hm, hmm, hx, hi⟩
  · simp [Value.cells] at hcs
    obtain ⟨rfl, rfl, rfl⟩ := hcs
    exact ⟨[], rfl, (fun x h => by cases h), fun i hi => by simp at hi⟩
  · simp [Value.cells] at hcs
    obtain ⟨rfl, rfl, rfl⟩ := hcs
    have hmc : m = cap := by simpa using hmm
    have each : ∀ i, i < len → ∃ z : Int, W.cell? (x.add i) = some (.int .u64 z) ∧ 0 ≤ z ∧ z < 18446744073709551616 := fun i him => by
      obtain ⟨hc, ht⟩ := hi i (by omega)
      obtain ⟨u, e0, _, wu⟩ := DataW.trod_int Tryd.underlying111 ht
      simp only [List.cons.injEq, and_true] at e0
      rw [e0] at hc
      have h1 : IntKind.u64.min = 0 := rfl
      have h2 : IntKind.u64.max = 18446744073709551615 := rfl
      simp [Lit.wf, h1, h2] at wu
      exact ⟨u, hc, by omega⟩
    obtain ⟨f, hf'⟩ : ∃ f : Nat → Int, ∀ i, i < len → W.cell? (x.add i) = some (.int .u64 (f i)) ∧ 0 ≤ f i ∧ f i < 18446744073709551616 := by
      refine ⟨fun i => if h : i < len then Classical.choose (each i h) else 0, fun i hi => ?_⟩
      simp only [hi, dif_pos]
      exact Classical.choose_spec (each i hi)
    refine ⟨(List.range len).map f, by simp, fun z hz => ?_, fun i hi' => ?_⟩
    · obtain ⟨i, hi, rfl⟩ := List.mem_map.1 hz
      exact (hf' i (List.mem_range.1 hi)).2
    · simp at hi'
      have h1 := (hf' i hi').1
      have hsp : x.spot = none ∧ x.block < W.heap.size := by
        have h1 := (hf' 0 (by omega)).1
        have h2 : x.add 0 = x := by simp [Addr.add]
        rw [h2] at h1
        exact ⟨World.cell?_spot h1, World.block_lt_of_cell? W _ h1⟩
      obtain ⟨b, off, spot⟩ := x
      simp only at hsp
      obtain ⟨rfl, hlt⟩ := hsp
      have e : (⟨b, off, none⟩ : Addr).add i = ⟨b, off + i, none⟩ := by unfold Addr.add; split <;> simp_all
      rw [e] at h1
      refine ⟨b, off, rfl, hlt, ?_⟩
      rw [h1, List.getD_eq_getElem?_getD, List.getElem?_map, List.getElem?_range hi']
      rfl
set_option maxRecDepth 100000 in
/-- How many there can be. -/
theorem nums_reach {H : Type} {enc : TypeId × Value → H} {W : World} {a : Option Addr} {len cap : Nat} {d : DataW H} {p : List MemPlace}
    (k : DataW.Trod enc Tryd.prog W 0 (fun _ => true) true 131 (.slice a len cap) d p) {ts : List TypeId} {ds : List (DataW H)} {j : Nat}
    (hs : (DataW.weightsEach Tryd.prog ts ds).all (· ≤ reachBytes) = true) (ht : ts[j]? = some 131) (hd : ds[j]? = some d) : 8 * len ≤ 140737488351232 := by
  have hb : Tryd.prog.bytesOf 111 = 8 := by kernel_rfl
  obtain ⟨fuel, hf⟩ := k
  rcases open_slice1 Tryd.underlying131 (by kernel_rfl) hf with ⟨hcs, _⟩ | ⟨x, l, c, m, n, V, D, Pl, hcs, hb, hl, hm, hmm, hx, hi⟩
  · simp [Value.cells] at hcs
    obtain ⟨rfl, rfl, rfl⟩ := hcs
    omega
  · simp [Value.cells] at hcs
    obtain ⟨rfl, rfl, rfl⟩ := hcs
    simp only [Prod.mk.injEq] at hx
    rw [hx.1] at hd
    have := sized_slice hs ht hd Tryd.underlying131
    rw [‹Tryd.prog.bytesOf 111 = 8›] at this
    simp only [List.length_map, List.length_range, reachBytes] at this
    omega
end Go.Proofs.YtpljjmdkagbjpaaDoor

namespace Go.Proofs.YtpljjmdkagbjpaaDoor
open Go.ChangeShapes Go.WideShapes Go.ChangeAt Go.RowKit Go.Deep

set_option maxRecDepth 100000 in
/-- An array of short sums that came in by value. -/
theorem open_links {H : Type} {enc : TypeId × Value → H} {W : World} {r : Reach} {base b0 : Nat} {spare held : Bool} {t et : TypeId} {n : Nat} {v : Value} {d : DataW H} {p : List MemPlace}
    (ht : Tryd.prog.underlying t = some (.array n et)) (he : Tryd.prog.underlying et = some (.array 16 5)) (hC : Tryd.prog.cellsOf t = n * 16) (hE : Tryd.prog.cellsOf et = 16) (hv : Value.okWide Tryd.prog W r b0 t v) (h : DataW.Trod enc Tryd.prog W base (fun _ => spare) held t v d p) :
    ∃ l : List Int, v = .agg (kv .u8 l).toArray ∧ l.length = n * 16 ∧ Bytes l := by
  have c5 : Tryd.prog.cellsOf 5 = 1 := by kernel_rfl
  obtain ⟨cs, rfl, hsz⟩ := okWide_arr ht hv
  obtain ⟨fuel, hf⟩ := h
  obtain ⟨xs, m, rfl, hx, hlen, hn, hel⟩ := DataW.trod_array ht hf
  have hcl : cs.size = n * 16 := hsz.trans hC
  have each : ∀ c, c < n * 16 → ∃ z : Int, cs.toList[c]? = some (.int .u8 z) ∧ 0 ≤ z ∧ z ≤ 255 := fun c hc => by
    have h1 := hel (c / 16) (by omega)
    rw [hE, List.getElem?_eq_getElem (by omega)] at h1
    obtain ⟨ys, m2, rfl, hy, hlen2, hn2, hel2⟩ := DataW.trod_array he h1
    have h2 := hel2 (c % 16) (by omega)
    rw [c5, Nat.mul_one, List.getElem?_eq_getElem (by omega)] at h2
    obtain ⟨k, e1, _, wk⟩ := DataW.trod_int Tryd.underlying5 h2
    have b1 : IntKind.u8.min = 0 := rfl
    have b2 : IntKind.u8.max = 255 := rfl
    simp [Lit.wf, b1, b2] at wk
    refine ⟨k, ?_, wk⟩
    have h4 := congrArg (fun l : List Value => l[0]?) e1
    simp only [List.getElem?_take, List.getElem?_drop, Nat.lt_one_iff, if_true, Nat.add_zero] at h4
    rw [if_pos (by omega), show c / 16 * 16 + c % 16 = c by omega] at h4
    simpa [Value.cells] using h4
  obtain ⟨f, hf'⟩ : ∃ f : Nat → Int, ∀ i, i < n * 16 → cs.toList[i]? = some (.int .u8 (f i)) ∧ 0 ≤ f i ∧ f i ≤ 255 := by
    refine ⟨fun i => if h : i < n * 16 then Classical.choose (each i h) else 0, fun i hi => ?_⟩
    simp only [hi, dif_pos]
    exact Classical.choose_spec (each i hi)
  refine ⟨(List.range (n * 16)).map f, ?_, by simp, fun z hz => ?_⟩
  · congr 1
    apply Array.toList_inj.1
    apply List.ext_getElem?
    intro i
    by_cases hi : i < n * 16
    · rw [(hf' i hi).1]
      simp [List.getElem?_range hi]
    · rw [List.getElem?_eq_none (by simp; omega), List.getElem?_eq_none (by simp; omega)]
  · obtain ⟨i, hi, rfl⟩ := List.mem_map.1 hz
    exact (hf' i (List.mem_range.1 hi)).2
set_option maxRecDepth 100000 in
theorem ok_zeros {w : World} {base : Nat} {t : TypeId} {n : Nat} {d : TypeDesc} (hu : Tryd.prog.underlying t = some d) (hd : (match d with | .struct _ | .array _ _ => true | _ => false) = true) (hc : Tryd.prog.cellsOf t = n) (hn : 0 < n) (hts : Tryd.prog.cellTypes Tryd.prog.depth t = some (List.replicate n 5)) :
    Value.okWide Tryd.prog w .any base t (.agg (Array.replicate n (.int .u8 0))) := by
  have hrow : Row.okWide Tryd.prog w .any base t (Array.replicate n (.int .u8 0)) := by
    refine ⟨_, hts, ⟨1, by simp⟩, fun i v hv => ⟨5, ?_, ?_⟩⟩
    · rw [List.length_replicate, List.getElem?_replicate, if_pos (Nat.mod_lt _ hn)]
    · rw [Array.getElem?_replicate] at hv
      split at hv
      · simp only [Option.some.injEq] at hv
        rw [← hv]
        exact Cell.okWide_of_okWideB (by kernel_rfl)
      · cases hv
  unfold Value.okWide
  rw [hu]
  cases d <;> simp at hd
  · exact ⟨_, rfl, by simp [hc], hrow⟩
  · exact ⟨_, rfl, by simp [hc], hrow⟩
/-- That the conditions can be met: by arguments of which it is shown that they fit. -/
theorem witness_fits {H : Type} {enc : TypeId × Value → H} {C : Checked} {os : Os} {f : FuncId} {fn : Func} {s : ChangeSpec} {conds : List PathCond} {apart : Bool} {X : World → Array Value → Prop} (modest : Bool) (w0 : World) (args : Array Value) (fuel : Nat) (hos : w0.os = os)
    (hsh : (w0.forCall (fun _ _ => 0) ⟨#[], args, []⟩).Shaped C.prog)
    (hok : Input.okWide C.prog (w0.forCall (fun _ _ => 0) ⟨#[], args, []⟩) .any w0.heap.size f ⟨#[], args, []⟩)
    (hpre : s.preB enc C.prog fn conds apart (w0.forCall (fun _ _ => 0) ⟨#[], args, []⟩).memory args fuel = true)
    (hsz : s.sizedB enc C.prog fn apart (w0.forCall (fun _ _ => 0) ⟨#[], args, []⟩).memory args fuel = true)
    (hx : X (w0.forCall (fun _ _ => 0) ⟨#[], args, []⟩).memory args) :
    ∃ (w : World) (tape : Tape) (i : Input), w.os = os ∧ (w.forCall tape i).Shaped C.prog ∧ i.vars = [] ∧ Input.okWide C.prog (w.forCall tape i) .any w.heap.size f i ∧
      ((s.pre enc C.prog fn conds apart (w.forCall tape i).memory i.args ∧ X (w.forCall tape i).memory i.args) ∧ sizedMet enc C.prog fn (OpenSpec.ofChange s) apart (w.forCall tape i).memory i.args) ∧ ({ modest := modest } : Assume).holds C.prog (lone (Frame.enter C.prog f i.args .normal) [] (w.forCall tape i)) := by
  refine ⟨w0, fun _ _ => 0, ⟨#[], args, []⟩, hos, hsh, rfl, hok, ⟨⟨ChangeSpec.pre_of_preB hpre, hx⟩, sizedMet_of_sizedB hsz⟩, ?_⟩
  unfold Assume.holds
  exact ⟨by simp, by simp, fun _ => Modest.zero, by simp, by simp⟩
theorem links43 : Tryd.prog.cellTypes Tryd.prog.depth 43 = some (List.replicate 1088 5) := by kernel_rfl
theorem cellsOf43 : Tryd.prog.cellsOf 43 = 68 * 16 := by kernel_rfl
theorem cellsOf25 : Tryd.prog.cellsOf 25 = 16 := by kernel_rfl
end Go.Proofs.YtpljjmdkagbjpaaDoor
