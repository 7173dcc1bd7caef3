/-
  A joiner: whether a body is next, whether it is over, its end.
-/
import Derived.Test.YtioeaknhcfkfcaaPcA
import Derived.BigQuiet
namespace Go.Proofs.Ytioeaknhcfkfcaa
open Go.RowKit

theorem jcells {w : World} {g : Nat} {j : JV} (h : Blk w g (jObj j)) :
    (w.cell? ⟨g, 0, none⟩ = some (.bool j.began) ∧ w.cell? ⟨g, 1, none⟩ = some (.int .u32 j.id) ∧ w.cell? ⟨g, 2, none⟩ = some (.slice j.a j.n j.c)) ∧ ∀ i, w.frozen? ⟨g, i, none⟩ = false :=
  ⟨⟨h.cell 0, h.cell 1, h.cell 2⟩, fun i => h.frozen i⟩
def endJ (j : JV) : JV := ⟨true, j.id, none, 0, 0⟩
end Go.Proofs.Ytioeaknhcfkfcaa
