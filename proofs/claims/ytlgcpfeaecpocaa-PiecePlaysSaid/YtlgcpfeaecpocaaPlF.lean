/-
  The document's joiner takes a piece: all ways.
-/
import Derived.Test.YtlgcpfeaecpocaaPlC
import Derived.Test.YtlgcpfeaecpocaaPlD
import Derived.Test.YtlgcpfeaecpocaaPlE
import Derived.Deep.RegionHeld3
namespace Go.Proofs.Ytlgcpfeaecpocaa
open Go.RowKit

theorem rtake_any (B : Nat) (R : RJ) (v : Value) (p : PV) (tp : List Int) (w : World) (hB : B ≤ w.heap.size) (h : QRow w B v R.ps) (hp : HoldsB w B (.slice p.a p.n p.c) tp) (hl : (R.over = false → R.ps.length ≤ 31) ∧ ∀ x ∈ R.ps, x.l.length ≤ 4096) (ho : R.over = false → R.any = true → (R.ps.length : Int) < R.many) (hm : R.many ≤ 32) :
    Calls Try.prog 20 #[.agg (rjc R v), p.v] w (RTakePost B R p tp w) := by
  cases hr : rightB p with
  | false => exact rtake_bad B R v p tp w hB h hp hl ho hm hr
  | true =>
    cases ha : R.any with
    | false => exact rtake_first B R v p tp w hB h hp hl ho hm hr ha
    | true =>
      by_cases h1 : p.id < R.id
      · exact rtake_old B R v p tp w hB h hp hl ho hm hr ha h1
      by_cases h2 : p.id = R.id
      · cases hov : R.over with
        | true => exact rtake_over B R v p tp w hB h hp hl ho hm hr ha h1 (by simpa using h2) hov
        | false => exact rtake_same B R v p tp w hB h hp hl ho hm hr ha h1 (by simpa using h2) hov
      · exact rtake_newer B R v p tp w hB h hp hl ho hm hr ha h1 (by simpa using h2) (by omega)
end Go.Proofs.Ytlgcpfeaecpocaa
