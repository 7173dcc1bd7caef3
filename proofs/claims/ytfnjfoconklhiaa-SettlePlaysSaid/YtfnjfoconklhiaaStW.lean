/-
  SettlePlays: rules that may not be; the world of the steps.
-/
import Derived.Test.YtfnjfoconklhiaaStV
namespace Go.Proofs.Ytfnjfoconklhiaa
open Go.RowKit

def LawPost (w : World) (r : Ending) (w' : World) : Prop := r = .returned (.bool true) ∧ Below w.heap.size w w'
theorem build40 (a b : Int) (w : World) : (Instr.build 40 #[(0, .agg #[.int .i64 a, .int .i64 b])]).run Try.prog w = .ok (.agg (prc (ps0 a b)).toArray) w := run_build w 40 #[(0, .agg #[.int .i64 a, .int .i64 b])] _ (by kernel_rfl)
set_option maxRecDepth 100000 in
set_option maxHeartbeats 3200000 in
theorem plays_no (a b : Int) (ad : Option Addr) (len cap : Nat) (w : World) (h : rtB a b = false) : Calls Try.prog 3 #[.agg #[.int .i64 a, .int .i64 b], .slice ad len cap] w (LawPost w) := by
  have HN := fun w1 => new_no a b w1 h
  have HR := fun w1 => right_any a b w1
  have HRR := fun w1 => rright_any a b w1
  rw [h] at HR HRR
  obtain ⟨B2, hB2⟩ : ∃ B, B = w.heap.size := ⟨_, rfl⟩
  obtain ⟨B5, hB5⟩ : ∃ B, B = B2 + 1 := ⟨_, rfl⟩
  have U : Kp (Blk ((w.alloc (.cells #[.int .i64 a, .int .i64 b] 23)).alloc (.cells #[.int .i64 a, .int .i64 b] 25)) B2 (.cells #[.int .i64 a, .int .i64 b] 23) ∧ Blk ((w.alloc (.cells #[.int .i64 a, .int .i64 b] 23)).alloc (.cells #[.int .i64 a, .int .i64 b] 25)) B5 (.cells #[.int .i64 a, .int .i64 b] 25) ∧ Below w.heap.size w ((w.alloc (.cells #[.int .i64 a, .int .i64 b] 23)).alloc (.cells #[.int .i64 a, .int .i64 b] 25))) := ⟨(Blk.newAt _ hB2).old _, Blk.newAt _ (by rw [hB5, hB2]; simp), more (more (Below.refl _ _) _) _⟩
  have HE := Kp.mk (And.intro hB2 hB5)
  clear h hB2 hB5
  go_enter Try.func3, Try.ntmps3
  go_wp2_with fail
  rw [← HE.out.1, ← HE.out.2]
  refine (HN _).mono ?_
  rintro r w1 ⟨rfl, hb⟩
  have K := Kp.mk (And.intro (U.out.1.keep hb) (And.intro (U.out.2.1.keep hb) (U.out.2.2.trans (hb.mono U.out.2.2.size))))
  clear hb U HN
  go_wp2_with fail
  refine wp_region_flow (fun w' => Blk w' B2 (.cells #[.int .i64 a, .int .i64 b] 23) ∧ Blk w' B5 (.cells #[.int .i64 a, .int .i64 b] 25) ∧ Below w.heap.size w w') (by kernel_rfl) (by kernel_rfl) (by kernel_rfl)
    (fun _ _ h hb => ⟨h.1.keep hb, h.2.1.keep hb, h.2.2.trans (hb.mono h.2.2.size)⟩) (⟨K.out.1.draw, K.out.2.1.draw, Below.drew K.out.2.2⟩) ?_
  repeat (first
    | (apply Flow.value
       · rfl
       · (intro wx hS; exact exec_load_mid (cs := [.int .i64 a, .int .i64 b]) rfl rfl (Blk.range (cs := [.int .i64 a, .int .i64 b]) (o := 0) hS.1 rfl) Try.underlying23 rfl (by kernel_rfl))
       try simp only [Act.put, List.setIfInBounds_toArray, List.set_cons_zero, List.set_cons_succ])
    | (apply Flow.value
       · rfl
       · (intro wx hS; exact exec_load_mid (cs := [.int .i64 a, .int .i64 b]) rfl rfl (Blk.range (cs := [.int .i64 a, .int .i64 b]) (o := 0) hS.2.1 rfl) Try.underlying25 rfl (by kernel_rfl))
       try simp only [Act.put, List.setIfInBounds_toArray, List.set_cons_zero, List.set_cons_succ])
    | (apply Flow.call
       · rfl
       · intro wx hS; go_simp; constructor <;> with_reducible rfl
       · intro wx hS; exact HR wx
       try simp only [Act.put, List.setIfInBounds_toArray, List.set_cons_zero, List.set_cons_succ])
    | (apply Flow.call
       · rfl
       · intro wx hS; go_simp; constructor <;> with_reducible rfl
       · intro wx hS; exact HRR wx
       try simp only [Act.put, List.setIfInBounds_toArray, List.set_cons_zero, List.set_cons_succ])
    | (apply Flow.value
       · rfl
       · (intro wx hS; skip; go_simp; with_reducible rfl)
       try simp only [Act.put, List.setIfInBounds_toArray, List.set_cons_zero, List.set_cons_succ]))
  refine Flow.done ?_
  intro w3 hS
  have K3 := Kp.mk hS
  obtain ⟨q0, q1, -⟩ := hS.1.two
  clear hS K HR
  go_wp2_with fail
  refine (HRR _).mono ?_
  rintro r w4 ⟨rfl, hb⟩
  have K4 := Kp.mk (K3.out.2.2.trans (hb.mono K3.out.2.2.size))
  clear hb K3 q0 q1 HRR
  go_wp2_with fail
  refine (awake_any _).mono ?_
  rintro r w5 ⟨rfl, hb⟩
  have K5 := Kp.mk (K4.out.trans (hb.mono K4.out.size))
  clear hb K4
  go_wp2_with fail
  go_ret
  exact ⟨rfl, K5.out⟩
end Go.Proofs.Ytfnjfoconklhiaa
