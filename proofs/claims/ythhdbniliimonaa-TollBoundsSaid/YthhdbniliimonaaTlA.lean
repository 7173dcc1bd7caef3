/-
  The contracts of the toll's calls.
-/
import Derived.Test.YthhdbniliimonaaProg
import Derived.Test.YthhdbniliimonaaFlow
import Derived.Test.YthhdbniliimonaaFlowV
import Derived.Test.YthhdbniliimonaaBase
import Derived.WalkSpells
import Derived.WalkLawsBesides
import Derived.BigQuiet
import Derived.Deep.QuietTactic
import Derived.Outline
import Derived.Lib.Hide
namespace Go.Proofs.Ythhdbniliimonaa
open Go.RowKit

abbrev tollObj (a b c d f g o : Int) : Obj := .cells #[.int .i64 a, .int .i64 b, .int .i64 c, .int .i64 d, .int .i64 f, .int .i64 g, .int .i64 o] 51
theorem Blk.seven {w : World} {b : Nat} {v0 v1 v2 v3 v4 v5 v6 : Value} {t : TypeId} (h : Blk w b (.cells #[v0, v1, v2, v3, v4, v5, v6] t)) :
    w.cell? ⟨b, 0, none⟩ = some v0 ∧ w.cell? ⟨b, 1, none⟩ = some v1 ∧ w.cell? ⟨b, 2, none⟩ = some v2 ∧ w.cell? ⟨b, 3, none⟩ = some v3 ∧ w.cell? ⟨b, 4, none⟩ = some v4 ∧ w.cell? ⟨b, 5, none⟩ = some v5 ∧ w.cell? ⟨b, 6, none⟩ = some v6 ∧
      w.frozen? ⟨b, 4, none⟩ = false ∧ w.frozen? ⟨b, 5, none⟩ = false ∧ w.frozen? ⟨b, 6, none⟩ = false :=
  ⟨h.cell 0, h.cell 1, h.cell 2, h.cell 3, h.cell 4, h.cell 5, h.cell 6, h.frozen 4, h.frozen 5, h.frozen 6⟩

/-- What is left of a bucket behind so many ticks. -/
def fillV (l f e n : Int) : Int := if 0 < e ∧ wrap64 ((wrap64 (f - l)).tdiv e) < n then f else wrap64 (l + wrap64 (e * n))
theorem filled_any (l f e n : Int) (w : World) :
    Calls Try.prog 26 #[.int .i64 l, .int .i64 f, .int .i64 e, .int .i64 n] w fun r w' => r = .returned (.int .i64 (fillV l f e n)) ∧ w = w' := by
  have H1 : Kp (0 < e → wrap64 ((wrap64 (f - l)).tdiv e) < n → fillV l f e n = f) := ⟨fun a b => by unfold fillV; rw [if_pos ⟨a, b⟩]⟩
  have H2 : Kp (n ≤ wrap64 ((wrap64 (f - l)).tdiv e) → fillV l f e n = wrap64 (l + wrap64 (e * n))) := ⟨fun a => by unfold fillV; rw [if_neg (by omega)]⟩
  have H3 : Kp (e ≤ 0 → fillV l f e n = wrap64 (l + wrap64 (e * n))) := ⟨fun a => by unfold fillV; rw [if_neg (by omega)]⟩
  go_enter Try.func26, Try.ntmps26
  go_wp2_with fail
  · rename_i h1 h2
    go_ret
    exact ⟨reti (H1.out h1 h2).symm, rfl⟩
  · rename_i h1 h2
    go_ret
    exact ⟨reti (H2.out h2).symm, rfl⟩
  · rename_i h1
    go_ret
    exact ⟨reti (H3.out h1).symm, rfl⟩
theorem rmore_any (l f e n : Int) (w : World) (he : 0 ≤ e) (hl : wrap64 l = l) :
    Calls Try.prog 24 #[.int .i64 l, .int .i64 e, .int .i64 f, .int .i64 n] w fun r w' => r = .returned (.int .i64 (fillV l f e n)) ∧ w = w' := by
  have H0 : Kp (e = 0 → fillV l f e n = l) := ⟨fun a => by unfold fillV; rw [if_neg (by omega), a, Int.zero_mul]; simpa [wrap64] using hl⟩
  have H1 : Kp (e ≠ 0 → wrap64 ((wrap64 (f - l)).tdiv e) < n → fillV l f e n = f) := ⟨fun a b => by unfold fillV; rw [if_pos ⟨by omega, b⟩]⟩
  have H2 : Kp (n ≤ wrap64 ((wrap64 (f - l)).tdiv e) → fillV l f e n = wrap64 (l + wrap64 (e * n))) := ⟨fun a => by unfold fillV; rw [if_neg (by omega)]⟩
  have HE := Kp.mk he
  clear he hl
  by_cases h0 : e = 0
  · subst h0
    go_enter Try.func24, Try.ntmps24
    go_wp2_with fail
    go_ret
    exact ⟨reti (H0.out trivial).symm, rfl⟩
  · have h1 : (e == 0) = false := by simpa using h0
    have h2 : 0 < e := by have := HE.out; omega
    have K := Kp.mk h0
    clear HE
    go_enter Try.func24, Try.ntmps24
    go_wp2_with fail
    · rename_i h3
      go_ret
      exact ⟨reti (H1.out K.out h3).symm, rfl⟩
    · rename_i h3
      go_ret
      exact ⟨reti (H2.out h3).symm, rfl⟩
def rightV (a b c d : Int) : Bool := decide (1 ≤ a ∧ a ≤ 1073741824 ∧ 0 ≤ b ∧ b ≤ 1073741824 ∧ 1 ≤ c ∧ c ≤ 1073741824 ∧ 0 ≤ d ∧ d ≤ 1073741824)
theorem rright_any (a b c d : Int) (w : World) :
    Calls Try.prog 10 #[.agg #[.int .i64 a, .int .i64 b, .int .i64 c, .int .i64 d]] w fun r w' => r = .returned (.bool (rightV a b c d)) ∧ Below w.heap.size w w' := by
  have hb : Kp (∀ o : Obj, Below w.heap.size w (w.alloc o)) := ⟨fun o => more (Below.refl _ _) _⟩
  go_enter Try.func10, Try.ntmps10
  go_wp2_with fail
  all_goals go_ret
  all_goals exact ⟨retb (Bool.eq_iff_iff.2 (by simp [rightV]; omega)), hb.out _⟩
theorem wrong_yes (b : Nat) (n : Int) (h : 0 ≤ n) (w : World) :
    Calls Try.prog 25 #[.pointer (some ⟨b, 0, none⟩), .int .i64 n] w fun r w' => r = .returned (.int .i64 0) ∧ w = w' := by
  go_enter Try.func25, Try.ntmps25
  go_wp2_with fail
  go_ret
  exact ⟨rfl, rfl⟩
theorem wrong_no (b : Nat) (n : Int) (h : n < 0) (w : World) :
    Calls Try.prog 25 #[.pointer (some ⟨b, 0, none⟩), .int .i64 n] w fun r w' => r = .returned (.int .i64 1) ∧ w = w' := by
  go_enter Try.func25, Try.ntmps25
  go_wp2_with fail
  go_ret
  exact ⟨rfl, rfl⟩
theorem wrong_nil (n : Int) (w : World) :
    Calls Try.prog 25 #[.pointer none, .int .i64 n] w fun r w' => r = .returned (.int .i64 2) ∧ w = w' := by
  go_enter Try.func25, Try.ntmps25
  go_wp2_with fail
  go_ret
  exact ⟨rfl, rfl⟩
end Go.Proofs.Ythhdbniliimonaa
