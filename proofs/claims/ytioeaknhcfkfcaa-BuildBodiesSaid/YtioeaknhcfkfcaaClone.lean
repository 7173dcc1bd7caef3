/-
  bytes.Clone, by its other name.
-/
import Derived.Test.YtioeaknhcfkfcaaPcD
namespace Go.Proofs.Ytioeaknhcfkfcaa
open Go.RowKit

theorem clone_anyF (M : Nat) (v : Value) (l : List Int) (w : World) (h : HoldsB w M v l) (hr : l.length ≤ 140737488351232) :
    Calls Try.prog 40 #[v] w fun r w' => ∃ v', r = .returned v' ∧ w'.ownsRow w.heap.size 5 1 v' l.length (bv l) ∧ Below w.heap.size w w' := clone_any M v l w h hr
end Go.Proofs.Ytioeaknhcfkfcaa
