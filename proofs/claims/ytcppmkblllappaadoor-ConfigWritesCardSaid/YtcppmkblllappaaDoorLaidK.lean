/-
  What the walks ask of the world in which the law begins: from the listed variables and the world's shape.
-/
import Derived.Test.YtcppmkblllappaaDoorLaid
import Derived.Shelf.Vars
import Derived.LaidLaws
namespace Go.Proofs.YtcppmkblllappaaDoor
open Go.ChangeShapes Go.WideShapes Go.ChangeAt Go.RowKit

theorem row137 (u : TypeId) (h : Tryd.prog.typeName? 3 u = some "*errors.errorString") : u = 137 :=
  typeName_ptr_named (nm := "errors.errorString") (by rw [star]; kernel_rfl) (by kernel_rfl) (by decide) u (by rw [star]; exact h)
theorem gR4 : Tryd.prog.globalNamed (nmOf 4) = some 2 := by kernel_rfl
theorem gS5 : Tryd.prog.globalNamed (nmOf 5) = some 1 := by kernel_rfl
theorem cells139 : Tryd.prog.cellsOf 139 = 1 := by kernel_rfl
theorem cells9 : Tryd.prog.cellsOf 9 = 1 := by kernel_rfl
theorem rng_laid {W : World} (h : laidMet Tryd.prog laidL W) : ∃ tp p, W.var? Tryd.prog (nmOf 4) = some #[.iface tp p] := by
  obtain ⟨a0, s0, hv0, -, -, -⟩ := laid_sentinel h.tail.tail.tail.tail gR4 (by kernel_rfl) Tryd.underlying82 row137 Tryd.underlying137 Tryd.underlying139 rfl rfl Tryd.underlying9 cells139 cells9
  exact ⟨_, _, hv0⟩
theorem syn_laid {W : World} (h : laidMet Tryd.prog laidL W) : ∃ tp p, W.var? Tryd.prog (nmOf 5) = some #[.iface tp p] := by
  obtain ⟨a0, s0, hv0, -, -, -⟩ := laid_sentinel h.tail.tail.tail.tail.tail gS5 (by kernel_rfl) Tryd.underlying82 row137 Tryd.underlying137 Tryd.underlying139 rfl rfl Tryd.underlying9 cells139 cells9
  exact ⟨_, _, hv0⟩
set_option maxRecDepth 100000 in
theorem ml_shaped {W : World} (h : W.ShapedOpen Tryd.prog) : ∃ m, W.cell? ⟨0, 0, none⟩ = some (.int .i64 m) :=
  cell_of_shapedOpen_int (g := 0) (t := 3) (zero := #[.int .i64 0]) h (of_decide_eq_true (by kernel_rfl)) (by kernel_rfl) rfl (by kernel_rfl) (by kernel_rfl) Tryd.underlying3
theorem kon_of_laid {W : World} (hL : laidMetH Tryd.prog laidL W) (hs : W.ShapedOpen Tryd.prog) : Kon W := by
  have h := plain_laid hL
  have ht := tab_laid h
  refine ⟨ht, rng_laid h, syn_laid h, ml_shaped hs, ?_⟩
  have := ht.cell gTab 0 (by decide)
  exact World.block_lt_of_cell? W _ this
end Go.Proofs.YtcppmkblllappaaDoor
