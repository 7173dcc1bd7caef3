/-
  The law ShaBlocks, walked.
-/
import Derived.Test.YtkdejiggblngkaaDoorAwake
namespace Go.Proofs.YtkdejiggblngkaaDoor
open Go.RowKit

set_option maxRecDepth 100000 in
set_option maxHeartbeats 400000 in
theorem shaBlocks_walk (x0 : Int) (w : World) (w0 : (Lit.int .i64 x0).wf = true) (hk : KonIs w) :
    Calls Tryd.prog 6 #[.int .i64 x0] w fun e w' => e = .returned (.bool true) ∧ Below w.heap.size w w' := by
  have hb : x0 ≤ 9223372036854775807 := by
    have h1 : IntKind.i64.max = 9223372036854775807 := rfl
    simp [Lit.wf, h1] at w0
    exact w0.2
  have HK := Kp.mk hk
  have HB := Kp.mk hb
  clear hk hb w0
  go_enter Tryd.func6, Tryd.ntmps6
  go_wp2_with fail
  refine (awake4 w HK.out).mono ?_
  rintro r w1 ⟨rfl, h1⟩
  have H1 := Kp.mk h1
  clear h1
  go_wp2_with fail
  refine (blocks_any x0 _ HB.out).mono ?_
  rintro r w2 ⟨rfl, rfl⟩
  go_wp2_with fail
  refine (rblocks_any x0 _ HB.out).mono ?_
  rintro r w3 ⟨rfl, rfl⟩
  go_wp2_with fail
  go_ret
  exact ⟨rfl, H1.out⟩
end Go.Proofs.YtkdejiggblngkaaDoor
