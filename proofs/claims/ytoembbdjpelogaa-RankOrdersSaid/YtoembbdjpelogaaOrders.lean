/-
  The walk of the law RankOrders: it returns true, and leaves all old memory as it was. No conditions but that the numbers fit their kinds (not used).
-/
import Derived.Test.YtoembbdjpelogaaRank
import Derived.Test.YtoembbdjpelogaaFlow
namespace Go.Proofs.Ytoembbdjpelogaa
open Go.RowKit

set_option maxHeartbeats 3200000 in
theorem rankOrders_walk (e s m : Int) (e' s' m' : Int) (w : World) (_ : (Lit.int .u32 e).wf = true) (_ : (Lit.int .u32 s).wf = true) (_ : (Lit.int .i64 m).wf = true) (_ : (Lit.int .u32 e').wf = true) (_ : (Lit.int .u32 s').wf = true) (_ : (Lit.int .i64 m').wf = true) :
    Calls Try.prog 3 #[.agg #[.int .u32 e, .int .u32 s, .int .i64 m], .agg #[.int .u32 e', .int .u32 s', .int .i64 m']] w fun r w' => r = .returned (.bool true) ∧ Below w.heap.size w w' := by
  go_enter Try.func3, Try.ntmps3
  go_wp2_with fail
  refine wp_region_flow (fun w' => Below w.heap.size w w' ∧ Blk w' w.heap.size (Obj.cells #[Value.int IntKind.u32 e, Value.int IntKind.u32 s, Value.int IntKind.i64 m] 24) ∧ Blk w' (w.heap.size + 1) (Obj.cells #[Value.int IntKind.u32 e', Value.int IntKind.u32 s', Value.int IntKind.i64 m'] 24)) (by kernel_rfl) (by kernel_rfl) (by kernel_rfl) ?_ ?_
  · refine ⟨((((Below.refl _ _).alloc (Nat.le_refl _) _).alloc (by simp) _).drew), ?_, ?_⟩
    · exact ((Blk.new _ _).old _).draw
    · exact (Blk.newAt _ (by simp)).draw
  repeat (first
    | (apply Flow.idle
       · rfl
       try simp only [Act.put, List.setIfInBounds_toArray, List.set_cons_zero, List.set_cons_succ])
    | (apply Flow.value
       · rfl
       · (intro wx hS; have c1 := hS.2.1.cell; have c2 := hS.2.2.cell; go_simp; with_reducible rfl)
       try simp only [Act.put, List.setIfInBounds_toArray, List.set_cons_zero, List.set_cons_succ])
    | (apply Flow.call
       · rfl
       · (intro wx hS; have c1 := hS.2.1.cell; have c2 := hS.2.2.cell; go_simp; constructor <;> with_reducible rfl)
       · (intro wx hS; (first
           | refine (right_any _ _ _ _).mono ?_
           | refine (to_any _ _ _ _).mono ?_
           | refine (refRight_any _ _ _ _).mono ?_
           | refine (compare_any _ _ _ _ _ _ _).mono ?_
           | refine (order_any _ _ _ _ _ _ _).mono ?_
           | refine (newer_any _ _ _ _ _ _ _).mono ?_
           | refine (refNewer_any _ _ _ _ _ _ _).mono ?_); rintro r w2 ⟨rfl, hb⟩; exact ⟨rfl, hS.1.trans (hb.mono hS.1.size), hS.2.1.keep hb, hS.2.2.keep hb⟩)
       try simp only [Act.put, List.setIfInBounds_toArray, List.set_cons_zero, List.set_cons_succ]))
  refine Flow.done ?_
  intro w' hS
  go_wp2
  go_ret
  exact ⟨rfl, hS.1⟩

end Go.Proofs.Ytoembbdjpelogaa
