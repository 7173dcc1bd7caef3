/-
  How far nodes are: two ways of reckoning it come to one answer.
-/
import Derived.Test.YtkeoebldadpoiaaFbQ
namespace Go.Proofs.Ytkeoebldadpoiaa
open Go.RowKit

/-- Is node a linked to node b, both with rows? -/
def linkB (L : List (List Bool)) (a b : Nat) : Bool := decide (a < L.length) && decide (b < L.length) && decide (b < (L.getD a default).length) && (L.getD a default).getD b default
abbrev at' (l : List Int) (i : Nat) : Int := l.getD i default
theorem at_set {l : List Int} {i j : Nat} {v : Int} (hi : i < l.length) : at' (l.set i v) j = if i = j then v else at' l j := by
  simp only [at', List.getD_eq_getElem?_getD, List.getElem?_set]
  by_cases h : i = j
  · subst h; simp [hi]
  · simp [h]
structure IsFar (L : List (List Bool)) (dest : Nat) (f : Nat → Int) : Prop where
  zero : f dest = 0
  ge : ∀ b, b < L.length → -1 ≤ f b
  step : ∀ a b, a < L.length → b < L.length → linkB L a b = true → 0 ≤ f a → 0 ≤ f b ∧ f b ≤ f a + 1
  pred : ∀ b, b < L.length → b ≠ dest → 0 ≤ f b → ∃ a, a < L.length ∧ linkB L a b = true ∧ 0 ≤ f a ∧ f b = f a + 1
theorem IsFar.le {L : List (List Bool)} {dest : Nat} {f g : Nat → Int} (hf : IsFar L dest f) (hg : IsFar L dest g) : ∀ (k : Nat) (b : Nat), b < L.length → f b = k → 0 ≤ g b ∧ g b ≤ k := by
  intro k
  induction k with
  | zero =>
    intro b hb e
    by_cases hd : b = dest
    · subst hd; rw [hg.zero]; omega
    · obtain ⟨a, _, _, h1, h2⟩ := hf.pred b hb hd (by omega); omega
  | succ k ih =>
    intro b hb e
    by_cases hd : b = dest
    · subst hd; rw [hg.zero]; omega
    · obtain ⟨a, ha, hl, h1, h2⟩ := hf.pred b hb hd (by omega)
      obtain ⟨g1, g2⟩ := ih a ha (by omega)
      obtain ⟨g3, g4⟩ := hg.step a b ha hb hl g1
      omega
theorem IsFar.uniq {L : List (List Bool)} {dest : Nat} {f g : Nat → Int} (hf : IsFar L dest f) (hg : IsFar L dest g) (b : Nat) (hb : b < L.length) : f b = g b := by
  have h1 := hf.ge b hb
  have h2 := hg.ge b hb
  by_cases h0 : 0 ≤ f b
  · obtain ⟨g1, g2⟩ := hf.le hg (f b).toNat b hb (by omega)
    obtain ⟨g3, g4⟩ := hg.le hf (g b).toNat b hb (by omega)
    omega
  · by_cases h3 : 0 ≤ g b
    · obtain ⟨g3, g4⟩ := hg.le hf (g b).toNat b hb (by omega)
      omega
    · omega
/-- How many are not reached yet. -/
def unas : List Int → Nat
  | [] => 0
  | x :: t => (if x = -1 then 1 else 0) + unas t
theorem unas_set : ∀ (l : List Int) (i : Nat) (v : Int), i < l.length → at' l i = -1 → v ≠ -1 → unas (l.set i v) + 1 = unas l
  | [], i, v, hi, _, _ => absurd hi (by simp)
  | x :: t, 0, v, _, e, hv => by
    have e' : x = -1 := e
    simp only [List.set_cons_zero, unas]
    rw [if_neg hv, if_pos e']
    omega
  | x :: t, i + 1, v, hi, e, hv => by
    have := unas_set t i v (by simpa using hi) e hv
    simp only [List.set_cons_succ, unas]
    omega
theorem unas_rep (n : Nat) : unas (List.replicate n (-1)) = n := by
  induction n with
  | zero => rfl
  | succ n ih => rw [List.replicate_succ, unas, ih]; simp; omega
/-- The program's state: who is reached, and who waits. -/
structure Bfs (L : List (List Bool)) (dest : Nat) (far : List Int) (Q : List Nat) (to_ : Nat) (mu : Nat) : Prop where
  len : far.length = L.length
  zero : at' far dest = 0
  ge : ∀ b, b < L.length → -1 ≤ at' far b
  pred : ∀ b, b < L.length → b ≠ dest → 0 ≤ at' far b → ∃ a, a < L.length ∧ linkB L a b = true ∧ 0 ≤ at' far a ∧ at' far b = at' far a + 1
  inq : ∀ x ∈ Q, x < L.length ∧ 0 ≤ at' far x
  top : ∀ h t, Q = h :: t → ∀ b, b < L.length → at' far b ≤ at' far h + 1
  ord : Q.Pairwise fun x y => at' far x ≤ at' far y
  done : ∀ a, a < L.length → 0 ≤ at' far a → a ∉ Q → ∀ b, b < L.length → linkB L a b = true → 0 ≤ at' far b ∧ at' far b ≤ at' far a + 1
  head : ∀ h t, Q = h :: t → ∀ b, b < to_ → b < L.length → linkB L h b = true → 0 ≤ at' far b ∧ at' far b ≤ at' far h + 1
  meas : unas far + Q.length = mu
theorem Bfs.start {L : List (List Bool)} {dest : Nat} (hd : dest < L.length) : Bfs L dest ((List.replicate L.length (-1)).set dest 0) [dest] 0 L.length := by
  have h1 : ∀ b, b < L.length → at' (List.replicate L.length (-1)) b = -1 := fun b hb => by rw [at', ← gd (by simpa using hb)]; simp
  have hl : dest < (List.replicate L.length (-1 : Int)).length := by simpa using hd
  have h2 : ∀ b, b < L.length → at' ((List.replicate L.length (-1)).set dest 0) b = if dest = b then 0 else -1 := fun b hb => by
    rw [at_set hl]; split
    · rfl
    · exact h1 b hb
  refine ⟨by simp, by rw [h2 dest hd]; simp, fun b hb => by rw [h2 b hb]; split <;> omega, fun b hb hne h0 => ?_, fun x hx => ?_, fun h t e b hb => ?_, by simp, fun a ha h0 hn => ?_, fun h t e b hb => by omega, ?_⟩
  · rw [h2 b hb, if_neg (fun e => hne e.symm)] at h0; omega
  · simp at hx; subst hx; exact ⟨hd, by rw [h2 x hd]; simp⟩
  · simp at e; rw [← e.1, h2 dest hd, h2 b hb]; split <;> simp
  · rw [h2 a ha] at h0
    split at h0
    · rename_i e; simp at hn; exact absurd e.symm hn
    · omega
  · have := unas_set (List.replicate L.length (-1)) dest 0 hl (h1 dest hd) (by omega)
    rw [unas_rep] at this
    simp; omega
theorem Bfs.skip {L : List (List Bool)} {dest : Nat} {far : List Int} {h : Nat} {t : List Nat} {b mu : Nat} (H : Bfs L dest far (h :: t) b mu) (hs : linkB L h b = false ∨ at' far b ≠ -1) : Bfs L dest far (h :: t) (b + 1) mu := by
  refine ⟨H.len, H.zero, H.ge, H.pred, H.inq, H.top, H.ord, H.done, fun h' t' e y hy hyl hl => ?_, H.meas⟩
  by_cases hyb : y < b
  · exact H.head h' t' e y hyb hyl hl
  · obtain rfl : y = b := by omega
    cases e
    rcases hs with hs | hs
    · rw [hs] at hl; cases hl
    · have h1 := H.ge y hyl
      have h2 := H.top h t rfl y hyl
      omega
theorem Bfs.push {L : List (List Bool)} {dest : Nat} {far : List Int} {h : Nat} {t : List Nat} {b mu : Nat} (H : Bfs L dest far (h :: t) b mu) (hb : b < L.length) (hl : linkB L h b = true) (hn : at' far b = -1) :
    Bfs L dest (far.set b (at' far h + 1)) (h :: (t ++ [b])) (b + 1) mu := by
  have hbl : b < far.length := by rw [H.len]; exact hb
  obtain ⟨hh1, hh2⟩ := H.inq h (by simp)
  have hS : ∀ y, at' (far.set b (at' far h + 1)) y = if b = y then at' far h + 1 else at' far y := fun y => at_set hbl
  have hO : ∀ y, 0 ≤ at' far y → at' (far.set b (at' far h + 1)) y = at' far y := fun y hy => by rw [hS, if_neg (fun e => by rw [← e] at hy; omega)]
  have hB : at' (far.set b (at' far h + 1)) b = at' far h + 1 := by rw [hS, if_pos rfl]
  have hH := hO h hh2
  refine ⟨by simp [H.len], by rw [hO dest (by rw [H.zero]; omega)]; exact H.zero, fun y hy => ?_, fun y hy hne h0 => ?_, fun x hx => ?_, fun h' t' e y hy => ?_, ?_, fun a ha h0 hnq y hy hly => ?_, fun h' t' e y hy hyl hly => ?_, ?_⟩
  · rw [hS]; split
    · omega
    · exact H.ge y hy
  · by_cases e : b = y
    · subst e
      exact ⟨h, hh1, hl, by rw [hH]; exact hh2, by rw [hB, hH]⟩
    · rw [hS, if_neg e] at h0
      obtain ⟨a, h1, h2, h3, h4⟩ := H.pred y hy hne h0
      exact ⟨a, h1, h2, by rw [hO a h3]; exact h3, by rw [hO a h3, hS, if_neg e]; exact h4⟩
  · rw [← List.cons_append] at hx
    rcases List.mem_append.1 hx with hx | hx
    · obtain ⟨h1, h2⟩ := H.inq x hx
      exact ⟨h1, by rw [hO x h2]; exact h2⟩
    · simp at hx; subst hx; exact ⟨hb, by rw [hB]; omega⟩
  · cases e
    rw [hH, hS]; split
    · omega
    · exact H.top h t rfl y hy
  · rw [← List.cons_append, List.pairwise_append]
    refine ⟨?_, by simp, fun x hx y hy => ?_⟩
    · exact H.ord.imp_of_mem (fun {x y} hx hy h9 => by rw [hO x (H.inq x hx).2, hO y (H.inq y hy).2]; exact h9)
    · simp at hy; subst hy
      rw [hB, hO x (H.inq x hx).2]
      exact H.top h t rfl x (H.inq x hx).1
  · rw [← List.cons_append, List.mem_append, not_or] at hnq
    have hab : b ≠ a := fun e => hnq.2 (by simp [e])
    rw [hS, if_neg hab] at h0
    obtain ⟨h1, h2⟩ := H.done a ha h0 hnq.1 y hy hly
    rw [hO y h1, hO a h0]
    exact ⟨h1, h2⟩
  · cases e
    by_cases hyb : y < b
    · obtain ⟨h1, h2⟩ := H.head h t rfl y hyb hyl hly
      rw [hO y h1, hH]
      exact ⟨h1, h2⟩
    · obtain rfl : y = b := by omega
      rw [hB, hH]; omega
  · have e1 := unas_set far b (at' far h + 1) hbl hn (by omega)
    have e2 := H.meas
    rw [List.length_cons] at e2
    rw [List.length_cons, List.length_append, List.length_singleton]
    omega
theorem Bfs.pop {L : List (List Bool)} {dest : Nat} {far : List Int} {h : Nat} {t : List Nat} {b mu : Nat} (H : Bfs L dest far (h :: t) b mu) (hb : ∀ y, y < L.length → linkB L h y = true → y < b) : Bfs L dest far t 0 (mu - 1) := by
  have hp := List.pairwise_cons.1 H.ord
  refine ⟨H.len, H.zero, H.ge, H.pred, fun x hx => H.inq x (by simp [hx]), fun h' t' e y hy => ?_, hp.2, fun a ha h0 hnq y hy hly => ?_, fun _ _ _ y hy => by omega, ?_⟩
  · have h1 := H.top h t rfl y hy
    have h2 := hp.1 h' (by rw [e]; simp)
    omega
  · by_cases e : a = h
    · subst e
      exact H.head a t rfl y (hb y hy hly) hy hly
    · exact H.done a ha h0 (by simp [e, hnq]) y hy hly
  · have := H.meas
    simp at this
    omega
theorem Bfs.isFar {L : List (List Bool)} {dest : Nat} {far : List Int} {b mu : Nat} (H : Bfs L dest far [] b mu) : IsFar L dest (at' far) :=
  ⟨H.zero, H.ge, fun a b ha hb hl h0 => H.done a ha h0 (by simp) b hb hl, H.pred⟩
/-- The document's state: round by round, row by row. -/
structure Rnd (L : List (List Bool)) (dest : Nat) (far : List Int) (r a b : Nat) : Prop where
  len : far.length = L.length
  zero : at' far dest = 0
  ge : ∀ x, x < L.length → -1 ≤ at' far x
  pred : ∀ x, x < L.length → x ≠ dest → 0 ≤ at' far x → ∃ y, y < L.length ∧ linkB L y x = true ∧ 0 ≤ at' far y ∧ at' far x = at' far y + 1
  bound : ∀ x, x < L.length → at' far x ≤ (r : Int) + 1
  full : ∀ x, x < L.length → 0 ≤ at' far x → at' far x < (r : Int) → ∀ y, y < L.length → linkB L x y = true → 0 ≤ at' far y ∧ at' far y ≤ at' far x + 1
  cur : ∀ x, x < a → x < L.length → at' far x = (r : Int) → ∀ y, y < L.length → linkB L x y = true → 0 ≤ at' far y
  row : at' far a = (r : Int) → ∀ y, y < b → y < L.length → linkB L a y = true → 0 ≤ at' far y
theorem Rnd.start {L : List (List Bool)} {dest : Nat} (hd : dest < L.length) : Rnd L dest ((List.replicate L.length (-1)).set dest 0) 0 0 0 := by
  have H := Bfs.start hd
  refine ⟨H.len, H.zero, H.ge, H.pred, fun x hx => ?_, fun x hx h0 h1 => by omega, fun x hx => by omega, fun _ y hy => by omega⟩
  have := H.top dest [] rfl x hx
  rw [H.zero] at this
  simpa using this
theorem Rnd.skip {L : List (List Bool)} {dest : Nat} {far : List Int} {r a b : Nat} (H : Rnd L dest far r a b) (hs : at' far a ≠ (r : Int) ∨ 0 ≤ at' far b ∨ linkB L a b = false) : Rnd L dest far r a (b + 1) := by
  refine ⟨H.len, H.zero, H.ge, H.pred, H.bound, H.full, H.cur, fun e y hy hyl hl => ?_⟩
  by_cases hyb : y < b
  · exact H.row e y hyb hyl hl
  · obtain rfl : y = b := by omega
    rcases hs with hs | hs | hs
    · exact absurd e hs
    · exact hs
    · rw [hs] at hl; cases hl
theorem Rnd.set {L : List (List Bool)} {dest : Nat} {far : List Int} {r a b : Nat} (H : Rnd L dest far r a b) (ha : a < L.length) (hb : b < L.length) (h1 : at' far a = (r : Int)) (h2 : at' far b < 0) (hl : linkB L a b = true) : Rnd L dest (far.set b ((r : Int) + 1)) r a (b + 1) := by
  have hbl : b < far.length := by rw [H.len]; exact hb
  have hS : ∀ y, at' (far.set b ((r : Int) + 1)) y = if b = y then (r : Int) + 1 else at' far y := fun y => at_set hbl
  have hO : ∀ y, 0 ≤ at' far y → at' (far.set b ((r : Int) + 1)) y = at' far y := fun y hy => by rw [hS, if_neg (fun e => by rw [← e] at hy; omega)]
  have hB : at' (far.set b ((r : Int) + 1)) b = (r : Int) + 1 := by rw [hS, if_pos rfl]
  have hup : ∀ y, 0 ≤ at' far y → 0 ≤ at' (far.set b ((r : Int) + 1)) y := fun y hy => by rw [hO y hy]; exact hy
  have hA := hO a (by omega)
  refine ⟨by simp [H.len], by rw [hO dest (by rw [H.zero]; omega)]; exact H.zero, fun y hy => ?_, fun y hy hne h0 => ?_, fun y hy => ?_, fun x hx h0 hx2 y hy hly => ?_, fun x hx hxl e y hy hly => ?_, fun e y hy hyl hly => ?_⟩
  · rw [hS]; split
    · omega
    · exact H.ge y hy
  · by_cases e : b = y
    · subst e
      exact ⟨a, ha, hl, by rw [hA]; omega, by rw [hB, hA]; omega⟩
    · rw [hS, if_neg e] at h0
      obtain ⟨z, z1, z2, z3, z4⟩ := H.pred y hy hne h0
      exact ⟨z, z1, z2, hup z z3, by rw [hO z z3, hS, if_neg e]; exact z4⟩
  · rw [hS]; split
    · omega
    · exact H.bound y hy
  · have hne : b ≠ x := fun e => by rw [← e, hB] at hx2; omega
    rw [hS, if_neg hne] at h0 hx2
    obtain ⟨z1, z2⟩ := H.full x hx h0 hx2 y hy hly
    rw [hO y z1, hO x h0]
    exact ⟨z1, z2⟩
  · have hne : b ≠ x := fun e2 => by rw [← e2, hB] at e; omega
    rw [hS, if_neg hne] at e
    exact hup y (H.cur x hx hxl e y hy hly)
  · by_cases hyb : y < b
    · exact hup y (H.row (by rw [hA] at e; exact e) y hyb hyl hly)
    · obtain rfl : y = b := by omega
      rw [hB]; omega
theorem Rnd.nextA {L : List (List Bool)} {dest : Nat} {far : List Int} {r a : Nat} (H : Rnd L dest far r a L.length) : Rnd L dest far r (a + 1) 0 :=
  ⟨H.len, H.zero, H.ge, H.pred, H.bound, H.full, fun x hx hxl e y hy hly => by
    by_cases hxa : x < a
    · exact H.cur x hxa hxl e y hy hly
    · obtain rfl : x = a := by omega
      exact H.row e y hy hy hly, fun _ y hy => by omega⟩
theorem Rnd.nextR {L : List (List Bool)} {dest : Nat} {far : List Int} {r b : Nat} (H : Rnd L dest far r L.length b) : Rnd L dest far (r + 1) 0 0 :=
  ⟨H.len, H.zero, H.ge, H.pred, fun x hx => by have := H.bound x hx; omega, fun x hx h0 h1 y hy hly => by
    by_cases e : at' far x = (r : Int)
    · have h2 := H.cur x hx hx e y hy hly
      have h3 := H.bound y hy
      omega
    · exact H.full x hx h0 (by omega) y hy hly, fun x hx => by omega, fun _ y hy => by omega⟩
/-- Whoever is k far has k + 1 nodes on the way. -/
theorem Rnd.chain {L : List (List Bool)} {dest : Nat} {far : List Int} {r a b : Nat} (H : Rnd L dest far r a b) (hd : dest < L.length) : ∀ (k : Nat) (x : Nat), x < L.length → at' far x = k →
    ∃ l : List Int, l.Nodup ∧ l.length = k + 1 ∧ ∀ y ∈ l, 0 ≤ y ∧ y < (L.length : Int) ∧ at' far y.toNat ≤ k := by
  intro k
  induction k with
  | zero => intro x hx e; exact ⟨[(x : Int)], by simp, rfl, fun y hy => by simp at hy; subst hy; exact ⟨by omega, by omega, by rw [Int.toNat_natCast, e]; omega⟩⟩
  | succ k ih =>
    intro x hx e
    have hne : x ≠ dest := fun e2 => by rw [e2, H.zero] at e; omega
    obtain ⟨z, hz, _, z1, z2⟩ := H.pred x hx hne (by omega)
    obtain ⟨l, h1, h2, h3⟩ := ih z hz (by omega)
    refine ⟨(x : Int) :: l, List.nodup_cons.2 ⟨fun hm => ?_, h1⟩, by simp [h2], fun y hy => ?_⟩
    · have := (h3 _ hm).2.2
      rw [Int.toNat_natCast, e] at this
      omega
    · rcases List.mem_cons.1 hy with rfl | hy
      · exact ⟨by omega, by omega, by rw [Int.toNat_natCast, e]; omega⟩
      · have := h3 y hy
        exact ⟨this.1, this.2.1, by omega⟩
theorem Rnd.isFar {L : List (List Bool)} {dest : Nat} {far : List Int} {b : Nat} (H : Rnd L dest far L.length 0 b) (hd : dest < L.length) : IsFar L dest (at' far) := by
  refine ⟨H.zero, H.ge, fun x y hx hy hl h0 => H.full x hx h0 ?_ y hy hl, H.pred⟩
  obtain ⟨l, h1, h2, h3⟩ := H.chain hd (at' far x).toNat x hx (by omega)
  have := holes L.length l h1 (fun y hy => ⟨(h3 y hy).1, (h3 y hy).2.1⟩)
  omega
theorem far_one {L : List (List Bool)} {dest : Nat} {f g : List Int} (hf : IsFar L dest (at' f)) (hg : IsFar L dest (at' g)) (lf : f.length = L.length) (lg : g.length = L.length) : f = g := by
  apply List.ext_getElem (by rw [lf, lg])
  intro i h1 h2
  rw [gd h1, gd h2]
  exact hf.uniq hg i (by rw [← lf]; exact h1)
end Go.Proofs.Ytkeoebldadpoiaa
