/-
  A body's pieces, in whatever order: the walk.
-/
import Derived.Test.YtlgcpfeaecpocaaPjE
namespace Go.Proofs.Ytlgcpfeaecpocaa
open Go.RowKit

theorem pieceJoins_walk (id : Int) (a : Option Addr) (n cap : Nat) (bl : List Int) (size : Int) (ta : Option Addr) (tn tc : Nat) (tl : List Int) (ga : Option Addr) (gn gc : Nat) (gl : List Int) (fa : Option Addr) (fn fc : Nat) (ol : List PcV) (w : World)
    (hid : (Lit.int .u32 id).wf = true) (h : HoldsB w w.heap.size (.slice a n cap) bl) (_ : (Lit.int .i64 size).wf = true) (ht : IsInts w ta tn tl) (hg : IsInts w ga gn gl) (hf : IsPcs w fa fn ol) :
    Calls Try.prog 6 #[.int .u32 id, .slice a n cap, .int .i64 size, .slice ta tn tc, .slice ga gn gc, .slice fa fn fc] w fun r w' => r = .returned (.bool true) ∧ Below w.heap.size w w' := by
  by_cases h1 : 5000 < n
  · exact joins_long id size a n cap ta ga fa tn tc gn gc fn fc w h1
  by_cases h2 : 32 < manyN n (szN size)
  · exact joins_many id size a n cap ta ga fa tn tc gn gc fn fc w (by omega) h2
  · exact joins_main id size a n cap bl ta ga fa tn tc gn gc fn fc tl gl ol w (u32_of hid) h ht hg hf (by omega) (by omega)
end Go.Proofs.Ytlgcpfeaecpocaa
