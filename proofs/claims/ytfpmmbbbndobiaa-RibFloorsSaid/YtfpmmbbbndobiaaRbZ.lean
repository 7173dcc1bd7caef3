/-
  What one neighbour offers stays: the mathematics.
-/
import Derived.Test.YtfpmmbbbndobiaaRbP
import Derived.Test.YtfpmmbbbndobiaaRbY
namespace Go.Proofs.Ytfpmmbbbndobiaa
open Go.RowKit

/-- a is worse than b. -/
def ltK (a b : K3) : Prop := a.e < b.e ∨ a.e = b.e ∧ (a.s < b.s ∨ a.s = b.s ∧ b.m < a.m)
theorem cmpK_ge (a b : K3) : 0 ≤ cmpK a b ↔ ¬ ltK a b := by
  unfold cmpK cmpI ltK
  split <;> split <;> (try split) <;> (try split) <;> (try split) <;> omega
theorem cmpK_gt (a b : K3) : 0 < cmpK a b ↔ ltK b a := by
  unfold cmpK cmpI ltK
  split <;> split <;> (try split) <;> (try split) <;> (try split) <;> omega
theorem turnUp_best (T : TB) (d : Nat) : ∀ n, ∀ i, i < n → (T.off (d * 8 + i)).stands = true → (T.off (d * 8 + turnUp T d n)).stands = true ∧ 0 ≤ cmpK (T.off (d * 8 + turnUp T d n)).kn.k (T.off (d * 8 + i)).kn.k := by
  intro n
  induction n with
  | zero => intro i hi; omega
  | succ n ih =>
    intro i hi hs
    unfold turnUp
    cases hb : beB (T.off (d * 8 + n)) (T.off (d * 8 + turnUp T d n)) with
    | true =>
      rw [if_pos rfl]
      unfold beB at hb
      simp at hb
      refine ⟨hb.1, ?_⟩
      by_cases e : i = n
      · subst e
        rw [cmpK_ge]; unfold ltK; omega
      · obtain ⟨h1, h2⟩ := ih i (by omega) hs
        have h3 : 0 < cmpK (T.off (d * 8 + n)).kn.k (T.off (d * 8 + turnUp T d n)).kn.k := by
          rcases hb.2 with h | h
          · rw [h1] at h; cases h
          · exact h
        rw [cmpK_ge] at h2 ⊢
        rw [cmpK_gt] at h3
        unfold ltK at *
        omega
    | false =>
      rw [if_neg (by simp)]
      by_cases e : i = n
      · subst e
        unfold beB at hb
        rw [hs] at hb
        simp at hb
        refine ⟨hb.1, ?_⟩
        have h3 : ¬ 0 < cmpK (T.off (d * 8 + i)).kn.k (T.off (d * 8 + turnUp T d i)).kn.k := by omega
        rw [cmpK_gt] at h3
        rw [cmpK_ge]
        exact h3
      · exact ih i (by omega) hs
/-- The way of a destination is one of the best. -/
def Best (T : TB) (d : Nat) : Prop := ∀ i, i < 8 → (T.off (d * 8 + i)).stands = true → (lkO T d).stands = true ∧ 0 ≤ cmpK (lkO T d).kn.k (T.off (d * 8 + i)).kn.k
theorem best_turn (T : TB) (d : Nat) : Best (T.putW d (turnUp T d 8 : Nat)) d := by
  intro i hi hs
  have := turnUp_best T d 8 i hi hs
  unfold lkO TB.putW
  simp only [if_true, Int.toNat_natCast]
  exact this
theorem dropD_best (T : TB) (hwy : T.Ways) (u : Int) (q : Nat → OW → Bool) : ∀ n, n ≤ 8 → ∀ d, d < n → Best (dropD T u q n).1 d := by
  intro n
  induction n with
  | zero => intro _ d h; omega
  | succ n ih =>
    intro hn8 d hd
    show Best ((dropI (dropD T u q n).1 u q n 8).putW n (turnUp (dropI (dropD T u q n).1 u q n 8) n 8 : Nat)) d
    by_cases e : d = n
    · subst e
      exact best_turn _ _
    · have h1 := ih (by omega) d (by omega)
      have hw : ((dropI (dropD T u q n).1 u q n 8).putW n (turnUp (dropI (dropD T u q n).1 u q n 8) n 8 : Nat)).way d = (dropD T u q n).1.way d := by
        unfold TB.putW
        simp only [if_neg e]
        rw [(dropI_way _ u q n 8).1]
      have ho : ∀ j, j < d * 8 + 8 → ((dropI (dropD T u q n).1 u q n 8).putW n (turnUp (dropI (dropD T u q n).1 u q n 8) n 8 : Nat)).off j = (dropD T u q n).1.off j := fun j hj => by
        show (dropI (dropD T u q n).1 u q n 8).off j = _
        rw [dropI_off, if_neg (by omega)]
      intro i hi hs
      rw [ho _ (by omega)] at hs
      have h2 := h1 i hi hs
      rw [ho _ (by omega)]
      unfold lkO at h2 ⊢
      rw [hw]
      have hlt : ((dropD T u q n).1.way d).toNat < 8 := by have := dropD_ways hwy u q (d := n) (by omega) d (by omega); omega
      rw [ho _ (by omega)]
      exact h2
/-- What the law keeps: the neighbour g stands with k, and the way is one of the best. -/
structure Apart (g : Nat) (k : K3) (h : Int) (T : TB) : Prop where
  self : T.self = 0
  hold : T.hold = h
  st : (T.off (2 * 8 + g)).stands = true
  key : (T.off (2 * 8 + g)).kn.k = k
  best : Best T 2
theorem Apart.lk {g : Nat} {k : K3} {h : Int} {T : TB} (H : Apart g k h T) (hg : g < 8) : lkB T 2 = true ∧ 0 ≤ cmpK (lkO T 2).kn.k k := by
  have := H.best g hg H.st
  rw [H.key] at this
  refine ⟨?_, this.2⟩
  unfold lkB
  rw [show ((2 : Int)).toNat = 2 from rfl, this.1]
  rfl
theorem Apart.drop {g : Nat} {k : K3} {h : Int} {T : TB} (H : Apart g k h T) (hg : g < 8) (hwy : T.Ways) (u f : Int) (hf : f ≠ g) : Apart g k h (dropD T u (isN f) 8).1 := by
  have e : (dropD T u (isN f) 8).1.off (2 * 8 + g) = T.off (2 * 8 + g) := by
    rw [dropD_off, if_neg]
    rintro ⟨_, hh⟩
    unfold goes isN at hh
    rw [show (2 * 8 + g) % 8 = g by omega] at hh
    simp at hh
    omega
  exact ⟨(dropD_hold _ _ _ _).2.1.trans H.self, (dropD_hold _ _ _ _).1.trans H.hold, by rw [e]; exact H.st, by rw [e]; exact H.key, dropD_best T hwy u (isN f) 8 (by omega) 2 (by omega)⟩
theorem Apart.of {g : Nat} {k : K3} {h : Int} {T : TB} (H : Apart g k h T) (hg : g < 8) (now f : Int) (y : KV) (hy : y.d = 2) (hf : f ≠ g) : Apart g k h (ofV T now f y).2.2 := by
  unfold ofV
  split
  · exact H
  · rename_i hv
    have hf0 : 0 ≤ f ∧ f < 8 := by
      unfold ofOk ndB at hv
      simp at hv
      omega
    obtain ⟨m, rfl⟩ : ∃ m : Nat, f = m := ⟨f.toNat, by omega⟩
    have hm : m ≠ g := by omega
    have e : y.d.toNat * 8 + (m : Int).toNat = 2 * 8 + m := by rw [hy]; rfl
    have e2 : y.d.toNat = 2 := by rw [hy]; rfl
    rw [e, e2]
    split
    · exact H
    · split
      · exact H
      · split
        · rename_i hst
          refine ⟨H.self, H.hold, ?_, ?_, fun i hi hs => ?_⟩
          · show (if 2 * 8 + g = 2 * 8 + m then _ else T.off (2 * 8 + g)).stands = true
            rw [if_neg (by omega)]; exact H.st
          · show (if 2 * 8 + g = 2 * 8 + m then _ else T.off (2 * 8 + g)).kn.k = k
            rw [if_neg (by omega)]; exact H.key
          · have keep : ∀ j, ((T.putO (2 * 8 + m) { T.off (2 * 8 + m) with told := now }).off j).stands = (T.off j).stands ∧ ((T.putO (2 * 8 + m) { T.off (2 * 8 + m) with told := now }).off j).kn = (T.off j).kn := fun j => by
              unfold TB.putO
              simp only
              split
              · rename_i ej; rw [ej]; exact ⟨rfl, rfl⟩
              · exact ⟨rfl, rfl⟩
            rw [(keep _).1] at hs
            have := H.best i hi hs
            unfold lkO at this ⊢
            rw [(keep _).1, (keep _).2, (keep _).2]
            exact this
        · refine ⟨H.self, H.hold, ?_, ?_, best_turn _ 2⟩
          · show (if 2 * 8 + g = 2 * 8 + m then _ else T.off (2 * 8 + g)).stands = true
            rw [if_neg (by omega)]; exact H.st
          · show (if 2 * 8 + g = 2 * 8 + m then _ else T.off (2 * 8 + g)).kn.k = k
            rw [if_neg (by omega)]; exact H.key
theorem apart_first (h l : Int) (k : K3) (g : Nat) (hg : 1 ≤ g ∧ g < 8) (hk : krB k = true) : (ofV (tb0 0 h l) 0 g (kn0 2 k)).2.1 = 0 ∧ Apart g k h (ofV (tb0 0 h l) 0 g (kn0 2 k)).2.2 := by
  have hv : ofOk (tb0 0 h l) 0 g (kn0 2 k) = true := by rw [ofOk_of rfl (by decide), hk]; simp; omega
  have e : (kn0 2 k).d.toNat * 8 + (g : Int).toNat = 2 * 8 + g := rfl
  unfold ofV
  rw [if_neg (by simp [hv]), e, show (kn0 2 k).d.toNat = 2 from rfl, if_neg (by simp [tb0, ow0]), if_neg (by simp [tb0, ow0]), if_neg (by simp [tb0, ow0])]
  refine ⟨rfl, rfl, rfl, ?_, ?_, best_turn _ 2⟩
  · show (if 2 * 8 + g = 2 * 8 + g then _ else _ : OW).stands = true
    rw [if_pos rfl]; rfl
  · show (if 2 * 8 + g = 2 * 8 + g then _ else _ : OW).kn.k = k
    rw [if_pos rfl]; rfl
/-- All the paths that the table holds lie beside it. -/
def PathsIn (w : World) (t : Nat) (T : TB) : Prop := ∀ j, ∃ p, PathOK w t (T.off j).kn p
theorem path_nil (w : World) (t : Nat) (d : Int) (k : K3) : PathOK w t (kn0 d k) [] := ⟨⟨none, 0, rfl, rfl, by unfold maxLen; exact Nat.zero_le _, (fun _ hx => by cases hx), fun h => absurd h (Nat.lt_irrefl 0)⟩, Nat.zero_le _, fun b off e h0 => absurd h0 (Nat.lt_irrefl 0)⟩
theorem PathsIn.keep {w w' : World} {t : Nat} {T : TB} (h : PathsIn w t T) (hb : Below w.heap.size w w') : PathsIn w' t T := fun j => by obtain ⟨p, hp⟩ := h j; exact ⟨p, hp.keep hb⟩
theorem PathsIn.turn {w w' : World} {t : Nat} {T : TB} {o : Obj} (h : PathsIn w t T) (k : Turn t o w w') : PathsIn w' t T := fun j => by obtain ⟨p, hp⟩ := h j; exact ⟨p, hp.turn k⟩
theorem PathsIn.drop {w : World} {t : Nat} {T : TB} (h : PathsIn w t T) (u : Int) (q : Nat → OW → Bool) (n : Nat) : PathsIn w t (dropD T u q n).1 := fun j => by
  rw [dropD_off]
  split
  · exact ⟨[], path_nil w t 0 k0⟩
  · exact h j
theorem PathsIn.of {w : World} {t : Nat} {T : TB} (h : PathsIn w t T) (now f : Int) (y : KV) {p : List Int} (hp : PathOK w t y p) : PathsIn w t (ofV T now f y).2.2 := by
  unfold ofV
  split
  · exact h
  · split
    · exact h
    · split
      · exact h
      · split
        · intro j
          unfold TB.putO
          simp only
          split
          · exact h _
          · exact h j
        · intro j
          show ∃ p, PathOK w t (if j = _ then nwO now y else T.off j).kn p
          split
          · exact ⟨p, hp⟩
          · exact h j
end Go.Proofs.Ytfpmmbbbndobiaa
