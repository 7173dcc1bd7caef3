/-
  The contracts of the small functions of rank and of fingerpostref01: what each answers, and that it leaves all old memory as it was. No conditions.
-/
import Derived.Test.YtoembbdjpelogaaProg
import Derived.Test.YtoembbdjpelogaaPlain
import Derived.WalkKit
import Derived.WalkSpells
import Derived.WalkLawsBesides
import Derived.BigQuiet
import Derived.Deep.QuietTactic
namespace Go.Proofs.Ytoembbdjpelogaa
open Go.RowKit

set_option maxHeartbeats 400000 in
theorem right_any (e s m : Int) (w : World) :
    Calls Try.prog 14 #[.agg #[.int .u32 e, .int .u32 s, .int .i64 m]] w fun r w' => r = .returned (.bool (rightB e s m)) ∧ Below w.heap.size w w' := by
  go_enter Try.func14, Try.ntmps14
  go_wp2
  all_goals (go_ret; refine ⟨ret_bool (bool_is ?_), (Below.refl _ _).alloc (Nat.le_refl _) _⟩)
  all_goals (simp only [decide_eq_true_eq, Bool.false_eq_true, false_iff]; omega)

set_option maxHeartbeats 400000 in
theorem refRight_any (e s m : Int) (w : World) :
    Calls Try.prog 16 #[.agg #[.int .u32 e, .int .u32 s, .int .i64 m]] w fun r w' => r = .returned (.bool (rightB e s m)) ∧ Below w.heap.size w w' := by
  go_enter Try.func16, Try.ntmps16
  go_wp2
  all_goals (go_ret; refine ⟨ret_bool (bool_is ?_), (Below.refl _ _).alloc (Nat.le_refl _) _⟩)
  all_goals (simp only [decide_eq_true_eq, Bool.false_eq_true, false_iff]; omega)

set_option maxHeartbeats 400000 in
theorem to_any (e s m : Int) (w : World) :
    Calls Try.prog 15 #[.agg #[.int .u32 e, .int .u32 s, .int .i64 m]] w fun r w' => r = .returned (.agg #[.int .u32 e, .int .u32 s, .int .i64 m]) ∧ Below w.heap.size w w' := by
  go_enter Try.func15, Try.ntmps15
  go_wp2
  refine bodyPost_ret (v := .agg #[.int .u32 e, .int .u32 s, .int .i64 m]) (by simp [results, Try.results15, go_sem]) rfl ⟨rfl, ((Below.refl _ _).alloc (Nat.le_refl _) _).alloc (by simp) _⟩

set_option maxHeartbeats 400000 in
theorem from_any (e s m : Int) (w : World) :
    Calls Try.prog 25 #[.agg #[.int .u32 e, .int .u32 s, .int .i64 m]] w fun r w' => r = .returned (.agg #[.int .u32 e, .int .u32 s, .int .i64 m]) ∧ Below w.heap.size w w' := by
  go_enter Try.func25, Try.ntmps25
  go_wp2
  refine bodyPost_ret (v := .agg #[.int .u32 e, .int .u32 s, .int .i64 m]) (by simp [results, Try.results25, go_sem]) rfl ⟨rfl, ((Below.refl _ _).alloc (Nat.le_refl _) _).alloc (by simp) _⟩

set_option maxHeartbeats 400000 in
theorem compare_any (e s m : Int) (e' s' m' : Int) (w : World) :
    Calls Try.prog 17 #[.agg #[.int .u32 e, .int .u32 s, .int .i64 m], .agg #[.int .u32 e', .int .u32 s', .int .i64 m']] w fun r w' => r = .returned (.int .i64 (compareI e s m e' s' m')) ∧ Below w.heap.size w w' := by
  go_enter Try.func17, Try.ntmps17
  go_wp2
  all_goals go_ret
  all_goals refine ⟨ret_int ?_, ((Below.refl _ _).alloc (Nat.le_refl _) _).alloc (by simp) _⟩
  all_goals (unfold compareI; repeat' split <;> omega)

set_option maxHeartbeats 400000 in
theorem better_any (e s m : Int) (e' s' m' : Int) (w : World) :
    Calls Try.prog 48 #[.agg #[.int .u32 e, .int .u32 s, .int .i64 m], .agg #[.int .u32 e', .int .u32 s', .int .i64 m']] w fun r w' => r = .returned (.bool (betterB e s m e' s' m')) ∧ Below w.heap.size w w' := by
  go_enter Try.func48, Try.ntmps48
  go_wp2
  all_goals go_ret
  all_goals refine ⟨ret_bool ?_, ((Below.refl _ _).alloc (Nat.le_refl _) _).alloc (by simp) _⟩
  · exact better_e ‹_›
  · exact better_s ‹_› ‹_›
  · exact better_m ‹_› ‹_›

set_option maxHeartbeats 400000 in
theorem newer_any (e s m : Int) (e' s' m' : Int) (w : World) :
    Calls Try.prog 19 #[.agg #[.int .u32 e, .int .u32 s, .int .i64 m], .agg #[.int .u32 e', .int .u32 s', .int .i64 m']] w fun r w' => r = .returned (.bool (newerB e s e' s')) ∧ Below w.heap.size w w' := by
  go_enter Try.func19, Try.ntmps19
  go_wp2
  all_goals go_ret
  all_goals refine ⟨ret_bool (bool_is ?_), ((Below.refl _ _).alloc (Nat.le_refl _) _).alloc (by simp) _⟩
  all_goals (simp only [decide_eq_true_eq, Bool.false_eq_true, false_iff, true_iff]; omega)

set_option maxHeartbeats 400000 in
theorem refNewer_any (e s m : Int) (e' s' m' : Int) (w : World) :
    Calls Try.prog 20 #[.agg #[.int .u32 e, .int .u32 s, .int .i64 m], .agg #[.int .u32 e', .int .u32 s', .int .i64 m']] w fun r w' => r = .returned (.bool (newerB e s e' s')) ∧ Below w.heap.size w w' := by
  go_enter Try.func20, Try.ntmps20
  go_wp2
  all_goals go_ret
  all_goals refine ⟨ret_bool (bool_is ?_), ((Below.refl _ _).alloc (Nat.le_refl _) _).alloc (by simp) _⟩
  all_goals (simp only [decide_eq_true_eq, Bool.false_eq_true, false_iff, true_iff]; omega)

theorem bcell {W w1 : World} (hb : Below W.heap.size W w1) : (∀ b o, b < W.heap.size → w1.cell? ⟨b, o, none⟩ = W.cell? ⟨b, o, none⟩) ∧ (∀ b o, b < W.heap.size → w1.frozen? ⟨b, o, none⟩ = W.frozen? ⟨b, o, none⟩) :=
  ⟨fun b o h => hb.cell (p := ⟨b, o, none⟩) h, fun b o h => hb.frozen (p := ⟨b, o, none⟩) h⟩

set_option maxHeartbeats 400000 in
theorem order_any (e s m : Int) (e' s' m' : Int) (w : World) :
    Calls Try.prog 18 #[.agg #[.int .u32 e, .int .u32 s, .int .i64 m], .agg #[.int .u32 e', .int .u32 s', .int .i64 m']] w fun r w' => r = .returned (.int .i64 (compareI e s m e' s' m')) ∧ Below w.heap.size w w' := by
  go_enter Try.func18, Try.ntmps18
  go_wp2_with fail
  refine (better_any _ _ _ _ _ _ _).mono ?_
  rintro r w' ⟨rfl, hb⟩
  obtain ⟨hc, hf⟩ := bcell hb
  go_wp2_with fail
  · go_ret
    refine ⟨ret_int ?_, (((Below.refl _ _).alloc (Nat.le_refl _) _).alloc (by simp) _).trans (hb.mono (by simp; omega))⟩
    have h : betterB e s m e' s' m' = true := ‹_›
    exact compare_up h
  · refine (better_any _ _ _ _ _ _ _).mono ?_
    rintro r w2 ⟨rfl, hb2⟩
    go_wp2_with fail
    all_goals go_ret
    all_goals refine ⟨ret_int ?_, ((((Below.refl _ _).alloc (Nat.le_refl _) _).alloc (by simp) _).trans (hb.mono (by simp; omega))).trans (hb2.mono (by have := hb.size; simp at this; omega))⟩
    · have h : betterB e' s' m' e s m = true := ‹_›
      exact compare_down h
    · have h : betterB e s m e' s' m' = false := ‹_›
      have h2 : betterB e' s' m' e s m = false := ‹_›
      exact compare_same h h2
end Go.Proofs.Ytoembbdjpelogaa
