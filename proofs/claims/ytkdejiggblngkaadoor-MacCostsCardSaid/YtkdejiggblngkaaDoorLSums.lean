/-
  The law ShaSums, walked.
-/
import Derived.Test.YtkdejiggblngkaaDoorAwake
import Derived.Test.YtkdejiggblngkaaDoorRSumW
import Derived.Test.YtkdejiggblngkaaDoorEq
namespace Go.Proofs.YtkdejiggblngkaaDoor
open Go.RowKit

set_option maxRecDepth 100000 in
set_option maxHeartbeats 400000 in
theorem shaSums_walk (a0 : Option Addr) (len0 cap0 : Nat) (z0 : List Int) (w : World) (w0 : HoldsB w w.heap.size (.slice a0 len0 cap0) z0) (g0 : len0 ≤ 140737488351232) (hk : KonIs w) :
    Calls Tryd.prog 3 #[.slice a0 len0 cap0] w fun e w' => e = .returned (.bool true) ∧ Below w.heap.size w w' := by
  have hl : z0.length = len0 := by obtain ⟨a', n', c', e, hn⟩ := w0.slice; simp only [Value.slice.injEq] at e; omega
  have HL := Kp.mk hl
  have HK := Kp.mk hk
  have HP := Kp.mk w0
  clear hl hk w0
  go_enter Tryd.func3, Tryd.ntmps3
  go_wp2_with fail
  refine (awake4 w HK.out).mono ?_
  rintro r w1 ⟨rfl, h1⟩
  have H1 := Kp.mk h1
  clear h1
  go_wp2_with fail
  refine (sum_any _ _ z0 w1 (HK.out.keep H1.out) (HP.out.keep H1.out) (by rw [HL.out]; omega)).mono ?_
  rintro r w2 ⟨rfl, h2⟩
  have H2 : Kp (Below w.heap.size w w2) := ⟨H1.out.trans (h2.mono H1.out.size)⟩
  clear h2
  go_wp2_with fail
  refine (rsum_any _ _ z0 w2 (HP.out.keep H2.out) (by rw [HL.out]; omega)).mono ?_
  rintro r w3 ⟨rfl, h3⟩
  have H3 : Kp (Below w.heap.size w w3) := ⟨H2.out.trans (h3.mono H2.out.size)⟩
  have hq := fun w => eql25 (digest_bytes z0) (digest_len z0) w
  have hg := eqg25
  clear h3
  generalize digest z0 = d at *
  go_wp2_with fail
  go_ret
  exact ⟨rfl, H3.out⟩
end Go.Proofs.YtkdejiggblngkaaDoor
