/-
  The walk of the law TollMost.
-/
import Derived.Test.YthhdbniliimonaaTlF
namespace Go.Proofs.Ythhdbniliimonaa
open Go.RowKit
set_option maxHeartbeats 800000 in
theorem tollMost_walk (a b c d n : Int) (w : World) (_ : (Lit.int .i64 a).wf = true) (_ : (Lit.int .i64 b).wf = true) (_ : (Lit.int .i64 c).wf = true) (_ : (Lit.int .i64 d).wf = true) (_ : (Lit.int .i64 n).wf = true) :
    Calls Try.prog 5 #[.agg #[.int .i64 a, .int .i64 b, .int .i64 c, .int .i64 d], .int .i64 n] w fun r w' => r = .returned (.bool true) ∧ Below w.heap.size w w' := by
  have HT := fun w1 => to_any a b c d w1
  have HM := fun w1 => most_any a b c d n w1
  have HR := fun w1 => rmost_any a b c d n w1
  unfold rate at HT HM HR
  go_enter Try.func5, Try.ntmps5
  go_wp2_with fail
  refine wp_region_flow (fun w' => Blk w' w.heap.size (.cells #[.int .i64 a, .int .i64 b, .int .i64 c, .int .i64 d] 23) ∧ Below w.heap.size w w') (by kernel_rfl) (by kernel_rfl) (by kernel_rfl)
    (fun _ _ h hb => ⟨h.1.keep hb, h.2.trans (hb.mono h.2.size)⟩) ⟨(Blk.new _ _).draw, Below.drew (more (Below.refl _ _) _)⟩ ?_
  repeat (first
    | (apply Flow.value
       · rfl
       · (intro wx hS; obtain ⟨c0, c1, c2, c3, -⟩ := hS.1.four; go_simp; with_reducible rfl)
       try simp only [Act.put, List.setIfInBounds_toArray, List.set_cons_zero, List.set_cons_succ])
    | (apply Flow.call
       · rfl
       · intro wx hS; go_simp; constructor <;> with_reducible rfl
       · intro wx hS; first | exact awake_any wx | exact HT wx | exact HM wx | exact HR wx
       simp only [Act.put, List.setIfInBounds_toArray, List.set_cons_zero, List.set_cons_succ]))
  refine Flow.done ?_
  intro w4 hS
  have HS4 := Kp.mk hS
  clear hS
  go_wp2_with fail
  go_ret
  exact ⟨rfl, HS4.out.2⟩
end Go.Proofs.Ythhdbniliimonaa
