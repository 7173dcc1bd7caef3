/-
  The law OtsSound, walked.
  What the listed variable holds gives the walks: the standard's constants. The door's own heap meets the condition.
-/
import Derived.Test.YtpljjmdkagbjpaaDoorOd20
import Derived.Test.YtpljjmdkagbjpaaDoorRows
import Derived.ProofKit
import Derived.LaidMore
import Derived.OpenShut
import Derived.Stop.Joined
namespace Go.Proofs.YtpljjmdkagbjpaaDoor
open Go.RowKit

theorem otsSound_walk (x0 : List Int) (x1_0 x1_1 : Int) (x2 x3 : List Int) (x4 x5 : Int) (w : World) (l0 : x0.length = 32) (b0 : Bytes x0) (_w1_0 : (Lit.int .i64 x1_0).wf = true) (w1_1 : (Lit.int .u32 x1_1).wf = true) (l2 : x2.length = 16) (b2 : Bytes x2) (l3 : x3.length = 16) (b3 : Bytes x3) (_w4 : (Lit.int .i64 x4).wf = true) (w5 : (Lit.int .u8 x5).wf = true) (hk : KonIs w) :
    Calls Tryd.prog 6 #[.agg (kv .u8 x0).toArray, .agg #[.int .i64 x1_0, .int .u32 x1_1], .agg (kv .u8 x2).toArray, .agg (kv .u8 x3).toArray, .int .i64 x4, .int .u8 x5] w fun e w' => e = .returned (.bool true) ∧ Below w.heap.size w w' := by
  have hx : 0 ≤ x1_1 ∧ x1_1 < 4294967296 := by have hb1 : IntKind.u32.min = 0 := rfl; have hb2 : IntKind.u32.max = 4294967295 := rfl; simp [Lit.wf, hb1, hb2] at w1_1; omega
  have ht : 0 ≤ x5 ∧ x5 ≤ 255 := by have hb1 : IntKind.u8.min = 0 := rfl; have hb2 : IntKind.u8.max = 255 := rfl; simp [Lit.wf, hb1, hb2] at w5; omega
  by_cases h : x3 = x2
  · exact sound_same x0 x1_0 x1_1 x2 x3 x4 x5 w hk l0 b0 hx l2 b2 l3 b3 ht h
  · exact sound_apart x0 x1_0 x1_1 x2 x3 x4 x5 w hk l0 b0 hx l2 b2 l3 b3 ht h
end Go.Proofs.YtpljjmdkagbjpaaDoor

namespace Go.Proofs.YtpljjmdkagbjpaaDoor
open Go.ChangeShapes Go.WideShapes Go.ChangeAt Go.RowKit

abbrev laidL : List (String × DataW Unit) := Rows.otsLinksRow.laid
theorem gKon : Tryd.prog.globalNamed ((Rows.otsLinksRow.laid.map (·.1)).headD default) = some 0 := by kernel_rfl
theorem tKon : (Tryd.prog.globals[0]?).map (·.type) = some 147 := by kernel_rfl
set_option maxRecDepth 100000 in
theorem laid_kon : (Rows.laid_fingerpost_sha_constants : DataW Unit) = .agg (kon.map fun k => .lit (.int .u32 k)) := rfl
set_option maxRecDepth 100000 in
theorem door_met (os : Os) (args : Array Value) : laidMetH Tryd.prog laidL ((World.doorLaid Tryd.prog 400 os).forCall (fun _ _ => 0) ⟨#[], args, []⟩).memory :=
  laidMetH_of_parts3 (fuel := 8) (laidMet_of_run' 8 (by kernel_rfl) (by kernel_rfl)) (by kernel_rfl) (by kernel_rfl)
theorem kon_of_laid {W : World} (h : laidMetH Tryd.prog laidL W) : KonIs W := by
  rw [MakeChecks.laidMetH_plain _ _ _ (by kernel_rfl)] at h
  obtain ⟨ps, ⟨g0, t0, cs0, f0, p0, q0, hg0, ht0, hv0, hd0, _, _⟩, _⟩ := h
  obtain rfl := Option.some.inj (gKon.symm.trans hg0)
  obtain rfl := Option.some.inj (tKon.symm.trans ht0)
  obtain ⟨xs, m, rfl, hx, hlen, hn, hel⟩ := DataW.trod_array Tryd.underlying147 hd0
  have c67 : Tryd.prog.cellsOf 22 = 1 := by kernel_rfl
  simp only [Prod.mk.injEq] at hx
  have hx1 := hx.1
  rw [laid_kon] at hx1
  simp only [DataW.agg.injEq] at hx1
  intro i hi
  have he := hel i hi
  rw [c67, Nat.mul_one] at he
  have hix : i < xs.length := by omega
  rw [List.getElem?_eq_getElem hix] at he
  obtain ⟨k, e1, e2, _⟩ := DataW.trod_int Tryd.underlying22 he
  have hk : (xs.map (·.1))[i]? = some (DataW.lit (.int .u32 k)) := by
    rw [List.getElem?_map, List.getElem?_eq_getElem hix]
    exact congrArg some (congrArg Prod.fst e2)
  rw [← hx1, List.getElem?_map, List.getElem?_eq_getElem (by rw [kon_len]; exact hi)] at hk
  simp at hk
  rw [World.var?_cell hg0 hv0 i]
  have h3 : cs0.toList[i]? = some (.int .u32 k) := by
    have h4 := congrArg (fun l : List Value => l[0]?) e1
    simp only [List.getElem?_take, List.getElem?_drop, Nat.lt_one_iff, if_true, Nat.add_zero] at h4
    simpa using h4
  rw [Array.getElem?_toList] at h3
  rw [h3, ← hk, List.getD_eq_getElem?_getD, List.getElem?_eq_getElem (by rw [kon_len]; exact hi)]
  rfl
end Go.Proofs.YtpljjmdkagbjpaaDoor
