/-
  What the listed variables hold gives the walks: the counters' names, the powers of ten. The door's own heap meets the condition.
-/
import Derived.Test.YtlinkcbnjdelcaaDoorRows
import Derived.ProofKit
import Derived.LaidMore
import Derived.OpenShut
import Derived.Stop.Joined
import Derived.Stop.LaidErr
import Derived.Lib.LaidTab
import Derived.Lib.ItoaMem
import Derived.Lib.AppendIntMem
import Derived.Shelf.Strconv.Itoa4
namespace Go.Proofs.YtlinkcbnjdelcaaDoor
open Go.ChangeShapes Go.WideShapes Go.ChangeAt Go.RowKit

abbrev laidL : List (String × DataW Unit) := Rows.countPlaysRow.laid
/-- The counters' names, as bytes. -/
def nmB : List (List UInt8) := [[102, 114, 97, 109, 101, 115], [102, 111, 114, 109], [115, 116, 114, 97, 110, 103, 101, 114, 115], [116, 111, 108, 108, 115], [116, 97, 103, 115], [114, 101, 112, 108, 97, 121, 115], [104, 101, 108, 108, 111, 115], [117, 112, 100, 97, 116, 101, 115], [101, 110, 116, 114, 105, 101, 115], [115, 116, 97, 108, 101], [114, 111, 111, 116, 108, 101, 115, 115], [112, 114, 111, 111, 102, 115], [104, 101, 108, 100], [116, 97, 107, 101, 110], [114, 101, 110, 101, 119, 97, 108, 115], [115, 105, 103, 110, 115], [112, 105, 101, 99, 101, 115], [115, 101, 110, 116], [98, 114, 111, 107, 101, 110]]
def nmA (i : Nat) : ByteArray := ⟨(nmB.getD i []).toArray⟩
theorem laid_nm : (Rows.laid_fingerpost_count_names : DataW Unit) = .agg (nmB.map fun l => .lit (.string l)) := rfl
theorem gNm : Tryd.prog.globalNamed ((Rows.countPlaysRow.laid.map (·.1)).getD 3 default) = some 0 := by kernel_rfl
theorem tNm : (Tryd.prog.globals[0]?).map (·.type) = some 57 := by kernel_rfl
theorem gTab : Tryd.prog.globalNamed ((Rows.countPlaysRow.laid.map (·.1)).getD 2 default) = some 1 := by kernel_rfl
/-- The names' variable holds the names. -/
def NamIs (W : World) : Prop := ∀ i, i < 19 → W.cell? ⟨0, i, none⟩ = some (.string (nmA i))
abbrev tabName : String := (Rows.countPlaysRow.laid.map (·.1)).getD 2 default
def TabOk (W : World) : Prop := Lib.TabIs Tryd.prog W tabName .u64 Lib.pow10Tab
structure Kon (W : World) : Prop where
  nam : NamIs W
  tab : TabOk W
  pos : 1 < W.heap.size
set_option maxRecDepth 100000 in
theorem door_met (os : Os) (args : Array Value) : laidMetH Tryd.prog laidL ((World.doorLaid Tryd.prog 400 os).forCall (fun _ _ => 0) ⟨#[], args, []⟩).memory :=
  laidMetH_of_parts3 (fuel := 8) (laidMet_of_run' 8 (by kernel_rfl) (by kernel_rfl)) (by kernel_rfl) (by kernel_rfl)
theorem nam_of {W : World} (h : laidMet Tryd.prog (laidL.drop 3) W) : NamIs W := by
  obtain ⟨ps, ⟨g0, t0, cs0, f0, p0, q0, hg0, ht0, hv0, hd0, _, _⟩, _⟩ := h
  obtain rfl := Option.some.inj (gNm.symm.trans hg0)
  obtain rfl := Option.some.inj (tNm.symm.trans ht0)
  obtain ⟨xs, m, rfl, hx, hlen, hn, hel⟩ := DataW.trod_array Tryd.underlying57 hd0
  have c9 : Tryd.prog.cellsOf 9 = 1 := by kernel_rfl
  simp only [Prod.mk.injEq] at hx
  have hx1 := hx.1
  rw [show (Rows.laid_fingerpost_count_names : DataW Unit) = .agg (nmB.map fun l => .lit (.string l)) from rfl] at hx1
  simp only [DataW.agg.injEq] at hx1
  intro i hi
  have he := hel i hi
  rw [c9, Nat.mul_one] at he
  have hix : i < xs.length := by omega
  rw [List.getElem?_eq_getElem hix] at he
  obtain ⟨k, e1, e2, _⟩ := DataW.trod_string Tryd.underlying9 he
  have hk : (xs.map (·.1))[i]? = some (DataW.lit (.string k.data.toList)) := by
    rw [List.getElem?_map, List.getElem?_eq_getElem hix]
    exact congrArg some (congrArg Prod.fst e2)
  rw [← hx1, List.getElem?_map, List.getElem?_eq_getElem (show i < nmB.length from hi)] at hk
  simp at hk
  rw [World.var?_cell hg0 hv0 i]
  have h3 : cs0.toList[i]? = some (.string k) := by
    have h4 := congrArg (fun l : List Value => l[0]?) e1
    simp only [List.getElem?_take, List.getElem?_drop, Nat.lt_one_iff, if_true, Nat.add_zero] at h4
    simpa using h4
  rw [Array.getElem?_toList] at h3
  rw [h3]
  unfold nmA
  rw [List.getD_eq_getElem?_getD, List.getElem?_eq_getElem (show i < nmB.length from hi)]
  obtain ⟨⟨l⟩⟩ := k
  simp at hk
  simp [hk]
theorem kon_of_laid {W : World} (h : laidMetH Tryd.prog laidL W) : Kon W := by
  rw [MakeChecks.laidMetH_plain _ _ _ (by kernel_rfl)] at h
  have hn := nam_of h.tail.tail.tail
  have ht : TabOk W := Lib.tabIs_of_head (t := (Tryd.prog.globals[1]?).map (·.type) |>.getD 0) (e := 73) (n := 20) gTab (by kernel_rfl) (by kernel_rfl) Tryd.underlying73 (by kernel_rfl) (by kernel_rfl) h.tail.tail
  refine ⟨hn, ht, ?_⟩
  have := ht.cell gTab 0 (by decide)
  exact World.block_lt_of_cell? W _ this
theorem NamIs.keep {w w' : World} (h : NamIs w) (h0 : 0 < w.heap.size) (hb : Below w.heap.size w w') : NamIs w' := fun i hi => (hb.cell (p := ⟨0, i, none⟩) h0).trans (h i hi)
theorem TabOk.heap {w w' : World} (h : TabOk w) (hb : w'.heap[1]? = w.heap[1]?) : TabOk w' := by
  unfold TabOk Lib.TabIs World.var? at *
  rw [show Tryd.prog.globalNamed tabName = some 1 from gTab] at *
  simp only [Option.bind_some] at *
  rw [hb]
  exact h
theorem Kon.keep {w w' : World} (h : Kon w) (hb : Below w.heap.size w w') : Kon w' := ⟨h.nam.keep (by have := h.pos; omega) hb, h.tab.heap (hb.block 1 h.pos), Nat.lt_of_lt_of_le h.pos hb.size⟩
end Go.Proofs.YtlinkcbnjdelcaaDoor
