/-
  FibNearer: what walks are, and how many nodes a way has.
-/
import Derived.Test.YtkeoebldadpoiaaFbK
import Derived.Maps.Own
import Derived.Maps.OwnOps
import Derived.Maps.OwnSet
import Derived.Maps.Views
namespace Go.Proofs.Ytkeoebldadpoiaa
open Go.RowKit Go.Maps

/-- What a walk's answer is. -/
structure Sound (R : List Int × Bool) : Prop where
  no : R.2 = false → R.1.Nodup
  yes : R.2 = true → ∃ way b, R.1 = way ++ [b] ∧ way.Nodup ∧ b ∈ way
theorem inB_mem {l : List Int} {x : Int} : inB l x = true ↔ x ∈ l := by simp [inB]
theorem nodup_snoc {l : List Int} {x : Int} (h : l.Nodup) (hx : inB l x = false) : (l ++ [x]).Nodup := by
  rw [List.nodup_append]
  refine ⟨h, by simp, fun y hy z hz e => ?_⟩
  simp at hz
  subst hz
  subst e
  simp [inB] at hx
  exact hx hy
theorem walk_sound {T : List (List H3)} (dest : Int) (hT : T.length ≤ 8) : ∀ (f : Nat) (way : List Int) (a : Int), WayInv T dest way → f + way.length = 9 → Sound (walkG T dest f way a)
  | 0, way, a, hw, hl => by have := hw.len; omega
  | f + 1, way, a, hw, hl => by
    cases hin : inB way a with
    | true => rw [walkG_in hin]; exact ⟨fun h => by simp at h, fun _ => ⟨way, a, rfl, hw.nodup, inB_mem.1 hin⟩⟩
    | false =>
      by_cases he : a = dest ∨ nextF T a dest = -1
      · rw [walkG_end hin he]; exact ⟨fun _ => nodup_snoc hw.nodup hin, fun h => by simp at h⟩
      · rw [walkG_on hin he]
        exact walk_sound dest hT f (way ++ [a]) _ (hw.on hin he) (by simp; omega)
/-- Where each hop leads nearer. -/
def Near (T : List (List H3)) (dest : Int) (m : List Int) (j : Nat) : Prop := 0 ≤ lookF (T.getD j default) dest → j < m.length ∧ (lookF (T.getD j default) dest).toNat < m.length ∧ m.getD (lookF (T.getD j default) dest).toNat default < m.getD j default
theorem walk_near {T : List (List H3)} {dest : Int} {m : List Int} (hok : OkT T) (hn : ∀ j, j < T.length → Near T dest m j) : ∀ (f : Nat) (way : List Int) (a : Int), (∀ x ∈ way, m.getD a.toNat default < m.getD x.toNat default) → (walkG T dest f way a).2 = false
  | 0, _, _, _ => rfl
  | f + 1, way, a, h => by
    cases hin : inB way a with
    | true => have := h a (inB_mem.1 hin); omega
    | false =>
      by_cases he : a = dest ∨ nextF T a dest = -1
      · rw [walkG_end hin he]
      · rw [walkG_on hin he]
        have hx : nextF T a dest ≠ -1 := fun e => he (.inr e)
        have ha := nextF_in hx
        have e1 : nextF T a dest = lookF (T.getD a.toNat default) dest := by unfold nextF; rw [if_pos ha]
        have hj : a.toNat < T.length := by omega
        have h2 := hok.at hj dest
        rw [e1] at hx
        have h3 := hn _ hj (by omega)
        refine walk_near hok hn f _ _ fun x hx => ?_
        rw [e1]
        rcases List.mem_append.1 hx with hx | hx
        · have := h x hx; omega
        · simp at hx; subst hx; exact h3.2.2
theorem walk_range {T : List (List H3)} {dest : Int} (hok : OkT T) : ∀ (f : Nat) (way : List Int) (a : Int), (∀ x ∈ way, 0 ≤ x ∧ x < 8) → (0 ≤ a ∧ a < 8) → ∀ x ∈ (walkG T dest f way a).1, 0 ≤ x ∧ x < 8
  | 0, way, a, h, ha => fun x hx => by
    rcases List.mem_append.1 hx with hx | hx
    · exact h x hx
    · simp at hx; subst hx; exact ha
  | f + 1, way, a, h, ha => by
    have hs : ∀ x ∈ way ++ [a], 0 ≤ x ∧ x < 8 := fun x hx => by
      rcases List.mem_append.1 hx with hx | hx
      · exact h x hx
      · simp at hx; subst hx; exact ha
    cases hin : inB way a with
    | true => rw [walkG_in hin]; exact hs
    | false =>
      by_cases he : a = dest ∨ nextF T a dest = -1
      · rw [walkG_end hin he]; exact hs
      · rw [walkG_on hin he]
        have hx : nextF T a dest ≠ -1 := fun e => he (.inr e)
        have hb := nextF_in hx
        have e1 : nextF T a dest = lookF (T.getD a.toNat default) dest := by unfold nextF; rw [if_pos hb]
        have h2 := hok.at (show a.toNat < T.length by omega) dest
        rw [← e1] at h2
        exact walk_range hok f _ _ hs (by rcases h2 with h2 | h2; exact absurd h2 hx; exact h2)
/-- How many unlike numbers stand ahead of a place. -/
def cntL (l : List Int) : Nat → Nat
  | 0 => 0
  | i + 1 => if inB (l.take i) (l.getD i default) = true then cntL l i else cntL l i + 1
theorem cntL_nodup {l : List Int} (h : l.Nodup) : ∀ i, i ≤ l.length → cntL l i = i
  | 0, _ => rfl
  | i + 1, hi => by
    rw [cntL, if_neg, cntL_nodup h i (by omega)]
    rw [inB_mem]
    intro hm
    rw [← gd (show i < l.length by omega)] at hm
    obtain ⟨j, hj, e⟩ := List.getElem_of_mem hm
    have hj' : j < i := by simp at hj; omega
    rw [List.getElem_take] at e
    have := (List.nodup_iff_pairwise_ne.1 h)
    exact List.pairwise_iff_getElem.1 this j i (by omega) (by omega) hj' e
theorem cntL_app {l : List Int} {b : Int} : ∀ i, i ≤ l.length → cntL (l ++ [b]) i = cntL l i
  | 0, _ => rfl
  | i + 1, hi => by
    rw [cntL, cntL, cntL_app i (by omega), List.take_append_of_le_length (by omega)]
    have e : (l ++ [b]).getD i default = l.getD i default := by rw [getD_snoc, if_pos (by omega)]
    rw [e]
theorem Sound.cnt {R : List Int × Bool} (h : Sound R) : cntL R.1 R.1.length = if R.2 = true then R.1.length - 1 else R.1.length := by
  cases hr : R.2 with
  | false => simp; exact cntL_nodup (h.no hr) _ (Nat.le_refl _)
  | true =>
    obtain ⟨way, b, e, hn, hb⟩ := h.yes hr
    rw [if_pos rfl, e, List.length_append, List.length_singleton, Nat.add_sub_cancel, cntL]
    rw [if_pos, cntL_app _ (Nat.le_refl _), cntL_nodup hn _ (Nat.le_refl _)]
    rw [inB_mem, List.take_append_of_le_length (Nat.le_refl _), List.take_length, getD_snoc, if_neg (by omega), if_pos rfl]
    exact hb
abbrev kx (x : Int) : Lit := .int .i64 x
theorem kx_inj {x y : Int} (h : x ≠ y) : kx x ≠ kx y := fun e => h (by injection e)
theorem size_new {D : DataW Unit} (hD : IsMap D) {k : Lit} {d : DataW Unit} (h : has D k = false) : Maps.size (D.put k d) = Maps.size D + 1 := by
  obtain ⟨es, rfl⟩ := hD
  show (DataW.insert (k, d) (es.filter fun p => !p.1.sameKey k)).length = es.length + 1
  rw [length_insert, List.filter_eq_self.2 (fun p hp => by simpa using (List.any_eq_false.1 h) p hp)]
theorem filter_len (k : Lit) : ∀ (es : List (Lit × DataW Unit)), es.Pairwise (fun p q => p.1 ≠ q.1) → es.any (fun p => p.1.sameKey k) = true → (es.filter fun p => !p.1.sameKey k).length + 1 = es.length
  | [], _, h => by simp at h
  | x :: t, hp, h => by
    rw [List.pairwise_cons] at hp
    cases hx : x.1.sameKey k with
    | true =>
      have hk := WideAt.sameKey_eq hx
      have : ∀ p ∈ t, (!p.1.sameKey k) = true := fun p hpt => by
        have hne := hp.1 p hpt
        rw [hk] at hne
        rw [sameKey_ne (fun e => hne e.symm)]; rfl
      simp [hx, List.filter_eq_self.2 this]
    | false =>
      have h2 : t.any (fun p => p.1.sameKey k) = true := by simpa [hx] using h
      have := filter_len k t hp.2 h2
      simp [hx]
      omega
theorem size_old {D : DataW Unit} (hD : Tidy D) {k : Lit} {d : DataW Unit} (h : has D k = true) : Maps.size (D.put k d) = Maps.size D := by
  obtain ⟨es, rfl, hp⟩ := hD
  show (DataW.insert (k, d) (es.filter fun p => !p.1.sameKey k)).length = es.length
  rw [length_insert]
  exact filter_len k es hp h
/-- The map behind i numbers of l. -/
structure Seen (D : DataW Unit) (l : List Int) (i : Nat) : Prop where
  keys : ∀ x, has D (kx x) = inB (l.take i) x
  size : Maps.size D = cntL l i
theorem Seen.start (l : List Int) : Seen (.map []) l 0 := ⟨fun x => by simp [has, inB], rfl⟩
theorem Seen.step {D : DataW Unit} {l : List Int} {i : Nat} (h : Seen D l i) (ht : Tidy D) (hi : i < l.length) (hk : WideAt.IsKeyLit (kx (l.getD i default))) (d : DataW Unit) : Seen (D.put (kx (l.getD i default)) d) l (i + 1) := by
  refine ⟨fun x => ?_, ?_⟩
  · rw [take_snocG l hi]
    by_cases e : x = l.getD i default
    · subst e
      rw [has_put_same ht.isMap hk]
      simp [inB]
    · rw [has_put_other (kx_inj e), h.keys]
      simp only [inB, List.mem_append, List.mem_singleton]
      rw [decide_eq_decide]
      exact ⟨fun h => .inl h, fun h => h.elim id (fun h => absurd h e)⟩
  · rw [cntL]
    cases hb : inB (l.take i) (l.getD i default) with
    | true => rw [if_pos rfl, ← h.size]; exact size_old ht (by rw [h.keys]; exact hb)
    | false => rw [if_neg (by simp), ← h.size]; exact size_new ht.isMap (by rw [h.keys]; exact hb)
theorem law3 : Keyed Try.prog 3 := int_keyed Try.underlying3
theorem zero3 (w : World) : (zeroValue 3).run Try.prog w = .ok (.int .i64 0) w := by kernel_rfl
theorem key3 {x : Int} (h : 0 ≤ x ∧ x < 8) : keyOf Try.prog 3 (.int .i64 x) = some (kx x) := keyOf_int_mk Try.underlying3 (by simp [Lit.wf, IntKind.min, IntKind.max, IntKind.signed, IntKind.bits]; omega)
theorem ownsMap_keep {w w' : World} {b n : Nat} {D : DataW Unit} (h : w.ownsMap Try.prog 3 (plainElem Try.prog 3) b n D) (hb : Below w.heap.size w w') : w'.ownsMap Try.prog 3 (plainElem Try.prog 3) b n D := by
  have hl := h.lt
  obtain ⟨es, clock, he, F, hs, hD⟩ := h
  exact ⟨es, clock, (hb.block b hl).trans he, F, hs, hD⟩
end Go.Proofs.Ytkeoebldadpoiaa
