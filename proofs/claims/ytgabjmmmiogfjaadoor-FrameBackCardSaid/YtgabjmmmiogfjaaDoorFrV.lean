/-
  From; the document's Same, of frames that are the same.
-/
import Derived.Test.YtgabjmmmiogfjaaDoorFrU
namespace Go.Proofs.YtgabjmmmiogfjaaDoor
open Go.RowKit

set_option maxRecDepth 100000 in
set_option maxHeartbeats 1000000 in
theorem from_any (fr to bo co ki : Int) (a : Option Addr) (n c : Nat) (w : World) : Calls Tryd.prog 19 #[.agg #[.int .i64 fr, .int .i64 to, .int .u64 bo, .int .u64 co, .int .i64 ki, .slice a n c]] w fun r w' => r = .returned (.agg #[.int .i64 fr, .int .i64 to, .int .u64 bo, .int .u64 co, .int .i64 ki, .slice a n c]) ∧ Below w.heap.size w w' := by
  go_enter Tryd.func19, Tryd.ntmps19
  go_wp2_with fail
  exact bodyPost_ret (results_row rfl _ _ (w.heap.size + 1) 26 #[.int .i64 fr, .int .i64 to, .int .u64 bo, .int .u64 co, .int .i64 ki, .slice a n c] (0, 0) _ rfl (Blk.newAt _ (by simp)) Tryd.underlying26 rfl info26s) rfl ⟨rfl, more (more (Below.refl _ _) _) _⟩
set_option maxRecDepth 100000 in
set_option maxHeartbeats 2000000 in
theorem same_one (M N : Nat) (fr to bo co ki : Int) (a b : Option Addr) (n c m d : Nat) (l : List Int) (w : World) (hx : HoldsB w M (.slice a n c) l) (hy : HoldsB w N (.slice b m d) l) :
    Calls Tryd.prog 18 #[.agg #[.int .i64 fr, .int .i64 to, .int .u64 bo, .int .u64 co, .int .i64 ki, .slice a n c], .agg #[.int .i64 fr, .int .i64 to, .int .u64 bo, .int .u64 co, .int .i64 ki, .slice b m d]] w fun r w' => r = .returned (.bool true) ∧ Below w.heap.size w w' := by
  have tx := ((hx.alloc (.cells #[.int .i64 fr, .int .i64 to, .int .u64 bo, .int .u64 co, .int .i64 ki, .slice a n c] 26)).alloc (.cells #[.int .i64 fr, .int .i64 to, .int .u64 bo, .int .u64 co, .int .i64 ki, .slice b m d] 26)).text
  have ty := ((hy.alloc (.cells #[.int .i64 fr, .int .i64 to, .int .u64 bo, .int .u64 co, .int .i64 ki, .slice a n c] 26)).alloc (.cells #[.int .i64 fr, .int .i64 to, .int .u64 bo, .int .u64 co, .int .i64 ki, .slice b m d] 26)).text
  generalize strOfNums l = s at *
  clear hx hy
  have HT : Kp (Below w.heap.size w ((w.alloc (.cells #[.int .i64 fr, .int .i64 to, .int .u64 bo, .int .u64 co, .int .i64 ki, .slice a n c] 26)).alloc (.cells #[.int .i64 fr, .int .i64 to, .int .u64 bo, .int .u64 co, .int .i64 ki, .slice b m d] 26))) := ⟨more (more (Below.refl _ _) _) _⟩
  have q1 : (fr == fr) = true := by simp
  have q2 : (to == to) = true := by simp
  have q3 : (bo == bo) = true := by simp
  have q4 : (co == co) = true := by simp
  have q5 : (ki == ki) = true := by simp
  have q6 : (s.toList == s.toList) = true := by simp
  go_enter Tryd.func18, Tryd.ntmps18
  go_wp2_with fail
  go_ret
  exact ⟨by first | rfl | simp, HT.out⟩
end Go.Proofs.YtgabjmmmiogfjaaDoor
