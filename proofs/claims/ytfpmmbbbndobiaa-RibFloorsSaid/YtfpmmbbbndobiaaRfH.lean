/-
  No route is worse than its floor: the mathematics.
-/
import Derived.Test.YtfpmmbbbndobiaaRfC
import Derived.Test.YtfpmmbbbndobiaaRfA
import Derived.Test.YtfpmmbbbndobiaaReA
namespace Go.Proofs.Ytfpmmbbbndobiaa
open Go.RowKit

theorem pruneI_off (T : TB) (d : Nat) (k : K3) (j : Nat) : ∀ n, (pruneI T d k n).off j = if d * 8 ≤ j ∧ j < d * 8 + n ∧ below T d k (j - d * 8) = true then ow0 else T.off j := by
  intro n
  induction n with
  | zero => rw [if_neg (by omega)]; rfl
  | succ n ih =>
    unfold pruneI
    split
    · rename_i hb
      unfold TB.putO
      simp only
      by_cases e : j = d * 8 + n
      · rw [if_pos e, if_pos ⟨by omega, by omega, by rw [show j - d * 8 = n by omega]; exact hb⟩]
      · rw [if_neg e, ih]
        by_cases h : d * 8 ≤ j ∧ j < d * 8 + n ∧ below T d k (j - d * 8) = true
        · rw [if_pos h, if_pos ⟨h.1, by omega, h.2.2⟩]
        · rw [if_neg h, if_neg (fun hh => h ⟨hh.1, by omega, hh.2.2⟩)]
    · rename_i hb
      rw [ih]
      by_cases h : d * 8 ≤ j ∧ j < d * 8 + n ∧ below T d k (j - d * 8) = true
      · rw [if_pos h, if_pos ⟨h.1, by omega, h.2.2⟩]
      · rw [if_neg h, if_neg]
        intro hh
        by_cases e : j = d * 8 + n
        · rw [show j - d * 8 = n by omega] at hh
          exact hb hh.2.2
        · exact h ⟨hh.1, by omega, hh.2.2⟩
theorem pruneI_rest (T : TB) (d : Nat) (k : K3) : ∀ n, (pruneI T d k n).way = T.way ∧ (pruneI T d k n).hold = T.hold ∧ (pruneI T d k n).self = T.self ∧ (pruneI T d k n).life = T.life := by
  intro n
  induction n with
  | zero => exact ⟨rfl, rfl, rfl, rfl⟩
  | succ n ih =>
    unfold pruneI
    split
    · exact ih
    · exact ih
theorem prune_ways {T : TB} (h : T.Ways) (d : Nat) (k : K3) (n : Nat) : (pruneI T d k n).Ways := fun e he => by rw [(pruneI_rest T d k n).1]; exact h e he
theorem PathsIn.prune {w : World} {t : Nat} {T : TB} (h : PathsIn w t T) (d : Nat) (k : K3) (n : Nat) : PathsIn w t (pruneI T d k n) := fun j => by
  rw [pruneI_off]
  split
  · exact ⟨[], path_nil w t 0 k0⟩
  · exact h j

/-- All that stands is right, of another node, and not below its floor. -/
structure Flo (T : TB) (h : Int) (F : Int → Option K3) : Prop where
  self : T.self = 0
  hold : T.hold = h
  ok : ∀ d i : Nat, d < 8 → i < 8 → (T.off (d * 8 + i)).stands = true → krB (T.off (d * 8 + i)).kn.k = true ∧ d ≠ 0 ∧ ∀ k, F d = some k → 0 ≤ cmpK (T.off (d * 8 + i)).kn.k k
theorem flo_new (h l : Int) (F : Int → Option K3) : Flo (tb0 0 h l) h F := ⟨rfl, rfl, fun d i _ _ hs => by simp [tb0, ow0] at hs⟩
theorem Flo.lk {T : TB} {h : Int} {F : Int → Option K3} (H : Flo T h F) (hw : T.Ways) {d : Nat} (hl : lkB T d = true) : d < 8 ∧ d ≠ 0 ∧ krB (lkO T d).kn.k = true ∧ ∀ k, F d = some k → 0 ≤ cmpK (lkO T d).kn.k k := by
  unfold lkB ndB at hl
  simp at hl
  have hd : d < 8 := by omega
  have := H.ok d (T.way d).toNat hd (by have := hw d hd; omega) hl.2
  exact ⟨hd, this.2.1, this.1, this.2.2⟩
theorem Flo.drop {T : TB} {h : Int} {F : Int → Option K3} (H : Flo T h F) (u : Int) (q : Nat → OW → Bool) : Flo (dropD T u q 8).1 h F := by
  refine ⟨(dropD_hold _ _ _ _).2.1.trans H.self, (dropD_hold _ _ _ _).1.trans H.hold, fun d i hd hi hs => ?_⟩
  rw [dropD_off] at hs ⊢
  split at hs
  · simp [gone] at hs
  · rename_i hc
    rw [if_neg hc]
    exact H.ok d i hd hi hs
theorem Flo.of {T : TB} {h : Int} {F : Int → Option K3} (H : Flo T h F) (now f : Int) (y : KV) (hf : ∀ k, F y.d = some k → 0 ≤ cmpK y.k k) : Flo (ofV T now f y).2.2 h F := by
  unfold ofV
  split
  · exact H
  · rename_i hv
    have hv0 : 0 ≤ f ∧ f < 8 ∧ 0 ≤ y.d ∧ y.d < 8 ∧ y.d ≠ 0 ∧ krB y.k = true := by
      have hs := H.self
      have hkr : krB y.k = true := by
        cases hc : krB y.k with
        | true => rfl
        | false => unfold ofOk at hv; rw [hc] at hv; simp at hv
      unfold ofOk ndB at hv
      simp at hv
      rw [hs] at hv
      exact ⟨by omega, by omega, by omega, by omega, by omega, hkr⟩
    obtain ⟨m, rfl⟩ : ∃ m : Nat, f = m := ⟨f.toNat, by omega⟩
    obtain ⟨e, he⟩ : ∃ e : Nat, y.d = e := ⟨y.d.toNat, by omega⟩
    rw [he] at hv0 hf ⊢
    simp only [Int.toNat_natCast]
    split
    · exact H
    · split
      · exact H
      · split
        · rename_i hst
          refine ⟨H.self, H.hold, fun d i hd hi hs => ?_⟩
          have keep : ∀ j, ((T.putO (e * 8 + m) { T.off (e * 8 + m) with told := now }).off j).stands = (T.off j).stands ∧ ((T.putO (e * 8 + m) { T.off (e * 8 + m) with told := now }).off j).kn = (T.off j).kn := fun j => by
            unfold TB.putO
            simp only
            split
            · rename_i ej; rw [ej]; exact ⟨rfl, rfl⟩
            · exact ⟨rfl, rfl⟩
          rw [(keep _).1] at hs
          rw [(keep _).2]
          exact H.ok d i hd hi hs
        · refine ⟨H.self, H.hold, fun d i hd hi hs => ?_⟩
          have hs' : (if d * 8 + i = e * 8 + m then nwO now y else T.off (d * 8 + i)).stands = true := hs
          show krB (if d * 8 + i = e * 8 + m then nwO now y else T.off (d * 8 + i)).kn.k = true ∧ d ≠ 0 ∧ ∀ k, F d = some k → 0 ≤ cmpK (if d * 8 + i = e * 8 + m then nwO now y else T.off (d * 8 + i)).kn.k k
          by_cases c : d * 8 + i = e * 8 + m
          · rw [if_pos c]
            have ed : d = e := by omega
            subst ed
            exact ⟨hv0.2.2.2.2.2, by omega, fun k hk => hf k hk⟩
          · rw [if_neg c] at hs' ⊢
            exact H.ok d i hd hi hs'
theorem Flo.raise {T : TB} {h : Int} {F : Int → Option K3} (H : Flo T h F) {d : Nat} (x : K3) (hd : d < 8) (hx : krB x = true) : Flo (pruneI T d x 8) h (raiseF F d x) := by
  refine ⟨(pruneI_rest _ _ _ _).2.2.1.trans H.self, (pruneI_rest _ _ _ _).2.1.trans H.hold, fun e i he hi hs => ?_⟩
  rw [pruneI_off] at hs ⊢
  split at hs
  · simp [ow0] at hs
  · rename_i hc
    rw [if_neg hc]
    obtain ⟨h1, h2, h3⟩ := H.ok e i he hi hs
    refine ⟨h1, h2, fun k hk => ?_⟩
    unfold raiseF at hk
    split at hk
    · unfold updF at hk
      by_cases ed : (e : Int) = d
      · rw [if_pos ed] at hk
        cases hk
        have ee : e = d := by omega
        subst ee
        have hb : below T e x i = false := by
          cases hbb : below T e x i with
          | false => rfl
          | true => exact absurd ⟨by omega, by omega, by rw [show e * 8 + i - e * 8 = i by omega]; exact hbb⟩ hc
        unfold below at hb
        rw [hs] at hb
        simp at hb
        rw [cmpK_ge]
        intro hl
        have := (cmpK_gt _ _).2 hl
        omega
      · rw [if_neg ed] at hk
        exact h3 k hk
    · exact h3 k hk
end Go.Proofs.Ytfpmmbbbndobiaa
