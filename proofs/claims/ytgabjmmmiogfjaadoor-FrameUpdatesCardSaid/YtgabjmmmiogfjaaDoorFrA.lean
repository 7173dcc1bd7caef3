/-
  A frame; whether it may be: the program's and the document's.
-/
import Derived.Test.YtgabjmmmiogfjaaDoorRtF
namespace Go.Proofs.YtgabjmmmiogfjaaDoor
open Go.RowKit

/-- A frame: its numbers, its body as a slice. -/
structure FV where
  (fr to bo co ki : Int)
  a : Option Addr
  (n c : Nat)
abbrev FV.v (p : FV) : Value := .agg #[.int .i64 p.fr, .int .i64 p.to, .int .u64 p.bo, .int .u64 p.co, .int .i64 p.ki, .slice p.a p.n p.c]
abbrev FV.box (p : FV) (t : TypeId) : Obj := .cells #[.int .i64 p.fr, .int .i64 p.to, .int .u64 p.bo, .int .u64 p.co, .int .i64 p.ki, .slice p.a p.n p.c] t
def frB (p : FV) : Bool := decide ((0 ≤ p.fr ∧ p.fr < 8) ∧ (0 ≤ p.to ∧ p.to < 8) ∧ p.fr ≠ p.to ∧ 1 ≤ p.bo ∧ 1 ≤ p.co ∧ 1 ≤ p.ki ∧ p.ki ≤ 4 ∧ p.n ≤ 4096)
theorem frB_is {p : FV} (h : frB p = true) : (0 ≤ p.fr ∧ p.fr < 8) ∧ (0 ≤ p.to ∧ p.to < 8) ∧ p.fr ≠ p.to ∧ 1 ≤ p.bo ∧ 1 ≤ p.co ∧ 1 ≤ p.ki ∧ p.ki ≤ 4 ∧ p.n ≤ 4096 := by unfold frB at h; exact of_decide_eq_true h
theorem isNode_any (n : Int) (w : World) : Calls Tryd.prog 71 #[.int .i64 n] w fun r w' => r = .returned (.bool (decide (0 ≤ n ∧ n < 8))) ∧ w = w' := by
  go_enter Tryd.func71, Tryd.ntmps71
  go_wp2_with fail
  all_goals go_ret
  all_goals exact ⟨retb (Bool.eq_iff_iff.2 (by simp; try omega)), rfl⟩
set_option maxHeartbeats 1000000 in
theorem right_any (p : FV) (w : World) : Calls Tryd.prog 33 #[p.v] w fun r w' => r = .returned (.bool (frB p)) ∧ Below w.heap.size w w' := by
  have hb : Kp (∀ o : Obj, Below w.heap.size w (w.alloc o)) := ⟨fun o => more (Below.refl _ _) _⟩
  go_enter Tryd.func33, Tryd.ntmps33
  go_wp2_with fail
  refine (isNode_any p.fr _).mono ?_
  rintro r w1 ⟨rfl, rfl⟩
  by_cases h1 : 0 ≤ p.fr ∧ p.fr < 8
  · rw [show decide (0 ≤ p.fr ∧ p.fr < 8) = true from decide_eq_true h1]
    have K1 := Kp.mk h1
    clear h1
    go_wp2_with fail
    refine (isNode_any p.to _).mono ?_
    rintro r w1 ⟨rfl, rfl⟩
    by_cases h2 : 0 ≤ p.to ∧ p.to < 8
    · rw [show decide (0 ≤ p.to ∧ p.to < 8) = true from decide_eq_true h2]
      have K2 := Kp.mk h2
      clear h2
      by_cases h3 : p.fr = p.to
      · have h3' : (p.fr != p.to) = false := by simp [h3]
        have K3 := Kp.mk h3
        clear h3
        go_wp2_with fail
        all_goals go_ret
        all_goals exact ⟨retb (Bool.eq_iff_iff.2 (by have := K3.out; simp [frB]; omega)), hb.out _⟩
      · have h3' : (p.fr != p.to) = true := by simp [h3]
        have K3 := Kp.mk h3
        clear h3
        go_wp2_with fail
        all_goals go_ret
        all_goals exact ⟨retb (Bool.eq_iff_iff.2 (by have := K3.out; have := K2.out; have := K1.out; simp [frB]; omega)), hb.out _⟩
    · rw [show decide (0 ≤ p.to ∧ p.to < 8) = false from decide_eq_false h2]
      go_wp2_with fail
      all_goals go_ret
      all_goals exact ⟨retb (Bool.eq_iff_iff.2 (by simp [frB]; omega)), hb.out _⟩
  · rw [show decide (0 ≤ p.fr ∧ p.fr < 8) = false from decide_eq_false h1]
    go_wp2_with fail
    all_goals go_ret
    all_goals exact ⟨retb (Bool.eq_iff_iff.2 (by simp [frB]; omega)), hb.out _⟩
set_option maxHeartbeats 1000000 in
theorem rright_any (p : FV) (w : World) : Calls Tryd.prog 36 #[p.v] w fun r w' => r = .returned (.bool (frB p)) ∧ Below w.heap.size w w' := by
  have hb : Kp (∀ o : Obj, Below w.heap.size w (w.alloc o)) := ⟨fun o => more (Below.refl _ _) _⟩
  by_cases h3 : p.fr = p.to
  · have h3' : (p.fr == p.to) = true := by simp [h3]
    have K3 := Kp.mk h3
    clear h3
    go_enter Tryd.func36, Tryd.ntmps36
    go_wp2_with fail
    all_goals go_ret
    all_goals exact ⟨retb (Bool.eq_iff_iff.2 (by have := K3.out; simp [frB]; omega)), hb.out _⟩
  · have h3' : (p.fr == p.to) = false := by simp [h3]
    have K3 := Kp.mk h3
    clear h3
    go_enter Tryd.func36, Tryd.ntmps36
    go_wp2_with fail
    all_goals go_ret
    all_goals exact ⟨retb (Bool.eq_iff_iff.2 (by have := K3.out; simp [frB]; omega)), hb.out _⟩
end Go.Proofs.YtgabjmmmiogfjaaDoor
