/-
  What the listed variables hold gives the walks: the powers of ten, the two sentinels. The door's own heap meets the condition.
-/
import Derived.Test.YtcppmkblllappaaDoorRows
import Derived.ProofKit
import Derived.LaidMore
import Derived.Lay
import Derived.OpenShut
import Derived.Stop.Joined
import Derived.Stop.LaidErr
import Derived.Lib.LaidTab
import Derived.Shelf.Strconv.Itoa3
namespace Go.Proofs.YtcppmkblllappaaDoor
open Go.ChangeShapes Go.WideShapes Go.ChangeAt Go.RowKit

abbrev laidL : List (String × DataW Unit) := Rows.configReadsRow.laid
abbrev nmOf (i : Nat) : String := (Rows.configReadsRow.laid.map (·.1)).getD i default
theorem gTab : Tryd.prog.globalNamed (nmOf 2) = some 3 := by kernel_rfl
theorem gRange : (Tryd.prog.globalNamed (nmOf 4)).map (fun g => decide (g < 4)) = some true := by kernel_rfl
theorem gSyntax : (Tryd.prog.globalNamed (nmOf 5)).map (fun g => decide (g < 4)) = some true := by kernel_rfl
noncomputable abbrev wit (os : Os) : World := World.laidAll Tryd.prog os laidL
set_option maxRecDepth 100000 in
theorem door_met (os : Os) (args : Array Value) : laidMetH Tryd.prog laidL ((wit os).forCall (fun _ _ => 0) ⟨#[], args, []⟩).memory := by
  rw [MakeChecks.laidMetH_plain _ _ _ (by kernel_rfl)]
  exact laidMet_laidAll args (by kernel_rfl) (by kernel_rfl)
theorem plain_laid {W : World} (h : laidMetH Tryd.prog laidL W) : laidMet Tryd.prog laidL W := by
  rw [MakeChecks.laidMetH_plain _ _ _ (by kernel_rfl)] at h
  exact h
theorem tab_laid {W : World} (h : laidMet Tryd.prog laidL W) : Lib.TabIs Tryd.prog W (nmOf 2) .u64 Lib.pow10Tab :=
  Lib.tabIs_of_head (t := (Tryd.prog.globals[3]?).map (·.type) |>.getD 0) (e := 91) (n := 20) gTab (by kernel_rfl) (by kernel_rfl) Tryd.underlying91 (by kernel_rfl) (by kernel_rfl) h.tail.tail
theorem star : "*" ++ "errors.errorString" = "*errors.errorString" := by decide
abbrev TabOk (W : World) : Prop := Lib.TabIs Tryd.prog W (nmOf 2) .u64 Lib.pow10Tab
/-- What the walks ask of the world in which the law begins. -/
structure Kon (W : World) : Prop where
  tab : TabOk W
  rng : ∃ tp p, W.var? Tryd.prog (nmOf 4) = some #[.iface tp p]
  syn : ∃ tp p, W.var? Tryd.prog (nmOf 5) = some #[.iface tp p]
  ml : ∃ m, W.cell? ⟨0, 0, none⟩ = some (.int .i64 m)
  size : 4 ≤ W.heap.size
theorem var_heap {n : String} {g : Nat} (hg : (Tryd.prog.globalNamed n).map (fun g => decide (g < 4)) = some true) {w w' : World} (h : 4 ≤ w.heap.size) (hb : ∀ k, k < 4 → w'.heap[k]? = w.heap[k]?) : w'.var? Tryd.prog n = w.var? Tryd.prog n := by
  unfold World.var?
  cases hq : Tryd.prog.globalNamed n with
  | none => rw [hq] at hg; cases hg
  | some k =>
    rw [hq] at hg
    simp at hg
    simp only [Option.bind_some]
    rw [hb k hg]
theorem gTab12 : (Tryd.prog.globalNamed (nmOf 2)).map (fun g => decide (g < 4)) = some true := by kernel_rfl
theorem Kon.keep {w w' : World} (h : Kon w) (hb : Below w.heap.size w w') : Kon w' := by
  have hh : ∀ k, k < 4 → w'.heap[k]? = w.heap[k]? := fun k hk => hb.block k (Nat.lt_of_lt_of_le hk h.size)
  refine ⟨?_, ?_, ?_, ?_, Nat.le_trans h.size hb.size⟩
  · have := h.tab
    unfold TabOk Lib.TabIs at this ⊢
    rw [var_heap (g := 0) gTab12 h.size hh]
    exact this
  · rw [var_heap (g := 0) gRange h.size hh]; exact h.rng
  · rw [var_heap (g := 0) gSyntax h.size hh]; exact h.syn
  · obtain ⟨m, hm⟩ := h.ml
    exact ⟨m, (World.cell?_of_block (a := ⟨0, 0, none⟩) (hh 0 (by omega))).trans hm⟩
end Go.Proofs.YtcppmkblllappaaDoor
