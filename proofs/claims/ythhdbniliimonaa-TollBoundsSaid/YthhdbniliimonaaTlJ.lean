/-
  The arithmetic of the law TollBounds.
-/
import Derived.Test.YthhdbniliimonaaTlI
namespace Go.Proofs.Ythhdbniliimonaa
open Go.RowKit
theorem fill_bounds {l f e n : Int} (hl : 0 ≤ l ∧ l ≤ f) (hf : f ≤ 1073741824) (he : 0 ≤ e ∧ e ≤ 1048576) (hn : 0 ≤ n ∧ n < 1000) :
    0 ≤ fillV l f e n ∧ fillV l f e n ≤ f ∧ fillV l f e n ≤ l + e * n := by
  have hp : 0 ≤ e * n ∧ e * n ≤ 1048576000 := by
    refine ⟨Int.mul_nonneg he.1 hn.1, ?_⟩
    have := Int.mul_le_mul he.2 (show n ≤ 1000 by omega) hn.1 (by omega : (0 : Int) ≤ 1048576)
    omega
  have w1 : wrap64 (f - l) = f - l := by unfold wrap64; omega
  have w2 : wrap64 (e * n) = e * n := by generalize e * n = p at *; unfold wrap64; omega
  have w3 : wrap64 (l + e * n) = l + e * n := by generalize e * n = p at *; unfold wrap64; omega
  unfold fillV
  rw [w1, w2, w3, Int.tdiv_eq_ediv_of_nonneg (by omega)]
  by_cases h0 : 0 < e
  · have q1 : e * ((f - l) / e) ≤ f - l := Int.mul_ediv_self_le (by omega)
    have q2 : f - l < e * ((f - l) / e) + e := Int.lt_mul_ediv_self_add h0
    have q3 : 0 ≤ (f - l) / e := Int.ediv_nonneg (by omega) he.1
    have q4 : (f - l) / e ≤ f - l := Int.ediv_le_self _ (by omega)
    have w4 : wrap64 ((f - l) / e) = (f - l) / e := by generalize (f - l) / e = q at *; unfold wrap64; omega
    rw [w4]
    generalize (f - l) / e = q at *
    split
    · rename_i h
      have h1 : q + 1 ≤ n := by omega
      have h2 : e * (q + 1) ≤ e * n := Int.mul_le_mul_of_nonneg_left h1 he.1
      rw [Int.mul_add, Int.mul_one] at h2
      generalize e * n = p at *
      generalize e * q = p2 at *
      omega
    · rename_i h
      have h1 : n ≤ q := by omega
      have h2 : e * n ≤ e * q := Int.mul_le_mul_of_nonneg_left h1 he.1
      generalize e * n = p at *
      generalize e * q = p2 at *
      omega
  · rw [if_neg (by omega)]
    have : e = 0 := by omega
    subst this
    simp
    omega
/-- What holds behind j steps: of the toll, of what was counted. -/
structure BInv (a b c d : Int) (s : TS) (fr bl ow tk : Int) (j : Nat) : Prop where
  st : s.a = a ∧ s.b = b ∧ s.c = c ∧ s.d = d ∧ s.o = ow
  f0 : 0 ≤ s.f ∧ s.f ≤ a
  g0 : 0 ≤ s.g ∧ s.g ≤ c
  o0 : 0 ≤ ow ∧ ow ≤ bl
  fr0 : 0 ≤ fr ∧ fr + s.f ≤ a + b * tk
  bl0 : bl + s.g ≤ c + d * tk
  tk0 : 0 ≤ tk ∧ tk ≤ 1000 * j
structure BRates (a b c d : Int) : Prop where
  r : rightV a b c d = true
  b1 : b ≤ 1048576
  d1 : d ≤ 1048576
theorem BRates.nums {a b c d : Int} (h : BRates a b c d) : 1 ≤ a ∧ a ≤ 1073741824 ∧ 0 ≤ b ∧ b ≤ 1048576 ∧ 1 ≤ c ∧ c ≤ 1073741824 ∧ 0 ≤ d ∧ d ≤ 1048576 := by
  have : 1 ≤ a ∧ a ≤ 1073741824 ∧ 0 ≤ b ∧ b ≤ 1073741824 ∧ 1 ≤ c ∧ c ≤ 1073741824 ∧ 0 ≤ d ∧ d ≤ 1073741824 := by simpa [rightV] using h.r
  have := h.b1
  have := h.d1
  omega
theorem BInv.start {a b c d : Int} (h : BRates a b c d) : BInv a b c d ⟨a, b, c, d, a, c, 0⟩ 0 0 0 0 0 := by
  have := h.nums
  exact ⟨⟨rfl, rfl, rfl, rfl, rfl⟩, ⟨by show 0 ≤ a; omega, Int.le_refl _⟩, ⟨by show 0 ≤ c; omega, Int.le_refl _⟩, ⟨by omega, by omega⟩, ⟨by omega, by show 0 + a ≤ _; simp⟩, by show 0 + c ≤ _; simp, ⟨by omega, by omega⟩⟩
/-- The bounds of the products. -/
theorem BInv.prods {a b c d fr bl ow tk : Int} {s : TS} {j : Nat} (h : BInv a b c d s fr bl ow tk j) (r : BRates a b c d) (hj : j ≤ 60) : 0 ≤ b * tk ∧ b * tk ≤ 62914560000 ∧ 0 ≤ d * tk ∧ d * tk ≤ 62914560000 := by
  have hn := r.nums
  have ht := h.tk0
  have k1 := Int.mul_le_mul (show b ≤ 1048576 by omega) (show tk ≤ 60000 by omega) ht.1 (by omega)
  have k2 := Int.mul_le_mul (show d ≤ 1048576 by omega) (show tk ≤ 60000 by omega) ht.1 (by omega)
  exact ⟨Int.mul_nonneg (by omega) ht.1, by omega, Int.mul_nonneg (by omega) ht.1, by omega⟩
/-- What the law asks at each step. -/
theorem BInv.asks {a b c d fr bl ow tk : Int} {s : TS} {j : Nat} (h : BInv a b c d s fr bl ow tk j) (r : BRates a b c d) (hj : j ≤ 60) :
    bl ≤ mostV a b c d tk ∧ fr ≤ a + b * tk ∧ 0 ≤ s.f ∧ s.f ≤ a ∧ 0 ≤ s.g ∧ s.g ≤ c := by
  have ht := h.tk0
  have := h.bl0
  have := h.fr0
  have hg := h.g0
  have hf := h.f0
  have e : mostV a b c d tk = c + d * tk := by unfold mostV; rw [if_pos ⟨r.r, ht.1, by omega⟩]
  rw [e]
  generalize d * tk = p at *
  generalize b * tk = q at *
  omega
theorem BInv.tick {a b c d fr bl ow tk : Int} {s : TS} {j : Nat} (h : BInv a b c d s fr bl ow tk j) (r : BRates a b c d) {n : Int} (hn : 0 ≤ n ∧ n < 1000) : BInv a b c d (tickS s n) fr bl ow (tk + n) (j + 1) := by
  obtain ⟨⟨e1, e2, e3, e4, e5⟩, f0, g0, o0, fr0, bl0, tk0⟩ := h
  have hr := r.nums
  have k1 := fill_bounds (l := s.f) (f := a) (e := b) f0 (by omega) (by omega) hn
  have k2 := fill_bounds (l := s.g) (f := c) (e := d) g0 (by omega) (by omega) hn
  unfold tickS
  rw [if_neg (by omega), e1, e2, e3, e4]
  refine ⟨⟨rfl, rfl, rfl, rfl, e5⟩, ⟨k1.1, k1.2.1⟩, ⟨k2.1, k2.2.1⟩, o0, ⟨fr0.1, ?_⟩, ?_, by omega⟩
  · rw [Int.mul_add]
    have := k1.2.2
    show fr + fillV s.f a b n ≤ _
    omega
  · rw [Int.mul_add]
    have := k2.2.2
    show bl + fillV s.g c d n ≤ _
    omega
theorem BInv.next {a b c d fr bl ow tk : Int} {s : TS} {j : Nat} (h : BInv a b c d s fr bl ow tk j) : BInv a b c d s fr bl ow tk (j + 1) :=
  ⟨h.st, h.f0, h.g0, h.o0, h.fr0, h.bl0, by have := h.tk0; omega⟩
theorem BInv.frame {a b c d fr bl ow tk : Int} {s : TS} {j : Nat} (h : BInv a b c d s fr bl ow tk j) (r : BRates a b c d) {n : Int} (hE : frameE s n = 0) : 0 ≤ n ∧ n ≤ 1073741824 ∧ BInv a b c d (frameS s n) (fr + 1) (bl + n) ow tk (j + 1) := by
  obtain ⟨⟨e1, e2, e3, e4, e5⟩, f0, g0, o0, fr0, bl0, tk0⟩ := h
  have hr := r.nums
  have hn : 0 ≤ n ∧ s.f ≠ 0 ∧ n ≤ s.g := by
    unfold frameE at hE
    split at hE
    · omega
    · split at hE
      · omega
      · omega
  refine ⟨hn.1, by omega, ?_⟩
  unfold frameS
  rw [if_pos hE]
  have w1 : wrap64 (s.f - 1) = s.f - 1 := by unfold wrap64; omega
  have w2 : wrap64 (s.g - n) = s.g - n := by unfold wrap64; omega
  rw [w1, w2]
  exact ⟨⟨e1, e2, e3, e4, e5⟩, ⟨by show 0 ≤ s.f - 1; omega, by show s.f - 1 ≤ a; omega⟩, ⟨by show 0 ≤ s.g - n; omega, by show s.g - n ≤ c; omega⟩, by omega, ⟨by omega, by show fr + 1 + (s.f - 1) ≤ _; omega⟩, by show bl + n + (s.g - n) ≤ _; omega, by omega⟩
theorem BInv.hold {a b c d fr bl ow tk : Int} {s : TS} {j : Nat} (h : BInv a b c d s fr bl ow tk j) (r : BRates a b c d) (hj : j ≤ 60) {n : Int} (hE : holdE s n = 0) : 0 ≤ n ∧ n ≤ 1073741824 ∧ BInv a b c d (holdS s n) fr (bl + n) (ow + n) tk (j + 1) := by
  have hp := h.prods r hj
  obtain ⟨⟨e1, e2, e3, e4, e5⟩, f0, g0, o0, fr0, bl0, tk0⟩ := h
  have hr := r.nums
  have hn : 0 ≤ n ∧ n ≤ s.g := by
    unfold holdE at hE
    split at hE
    · omega
    · split at hE
      · omega
      · omega
  refine ⟨hn.1, by omega, ?_⟩
  unfold holdS
  rw [if_pos hE]
  have w1 : wrap64 (s.o + n) = s.o + n := by generalize d * tk = p at *; unfold wrap64; omega
  have w2 : wrap64 (s.g - n) = s.g - n := by unfold wrap64; omega
  rw [w1, w2]
  exact ⟨⟨e1, e2, e3, e4, by show s.o + n = ow + n; omega⟩, f0, ⟨by show 0 ≤ s.g - n; omega, by show s.g - n ≤ c; omega⟩, by omega, fr0, by show bl + n + (s.g - n) ≤ _; omega, by omega⟩
theorem BInv.settle {a b c d fr bl ow tk : Int} {s : TS} {j : Nat} (h : BInv a b c d s fr bl ow tk j) (r : BRates a b c d) (hj : j ≤ 60) {n : Int} (hE : settleE s n = 0) : 0 ≤ n ∧ n ≤ ow ∧ BInv a b c d (settleS s n) fr (bl - (ow - n)) 0 tk (j + 1) := by
  have hp := h.prods r hj
  obtain ⟨⟨e1, e2, e3, e4, e5⟩, f0, g0, o0, fr0, bl0, tk0⟩ := h
  have hr := r.nums
  have hn : 0 ≤ n ∧ n ≤ s.o := by
    unfold settleE at hE
    split at hE
    · omega
    · split at hE
      · omega
      · omega
  refine ⟨hn.1, by omega, ?_⟩
  unfold settleS
  rw [if_pos hE]
  have w1 : wrap64 (wrap64 (s.g + s.o) - n) = s.g + s.o - n := by generalize d * tk = p at *; unfold wrap64; omega
  rw [w1]
  refine ⟨⟨e1, e2, e3, e4, rfl⟩, f0, ?_, by omega, fr0, ?_, by omega⟩
  · show 0 ≤ min (s.g + s.o - n) s.c ∧ min (s.g + s.o - n) s.c ≤ c
    omega
  · show bl - (ow - n) + min (s.g + s.o - n) s.c ≤ _
    generalize d * tk = p at *
    omega
end Go.Proofs.Ythhdbniliimonaa
