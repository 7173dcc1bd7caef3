/-
  SettlePlays, whatever the rules.
-/
import Derived.Test.YtfnjfoconklhiaaStX
namespace Go.Proofs.Ytfnjfoconklhiaa
open Go.RowKit
theorem settlePlays_walk (a b : Int) (ad : Option Addr) (len cap : Nat) (ol : List OpV) (w : World) (_ : (Lit.int .i64 a).wf = true) (_ : (Lit.int .i64 b).wf = true) (hops : IsOps w ad len ol) :
    Calls Try.prog 3 #[.agg #[.int .i64 a, .int .i64 b], .slice ad len cap] w fun r w' => r = .returned (.bool true) ∧ Below w.heap.size w w' := by
  cases h : rtB a b with
  | false => exact plays_no a b ad len cap w h
  | true => exact plays_yes a b ad len cap ol w h hops
end Go.Proofs.Ytfnjfoconklhiaa
