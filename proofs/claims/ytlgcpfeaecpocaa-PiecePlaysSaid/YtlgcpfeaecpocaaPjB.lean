/-
  A joiner on its way through a body's pieces.
-/
import Derived.Test.YtlgcpfeaecpocaaPjA
namespace Go.Proofs.Ytlgcpfeaecpocaa
open Go.RowKit

structure MS (bl : List Int) (sz m : Nat) (id : Int) (l : List PcV) (i : Nat) (J : PjM) : Prop where
  a : i = 0 → J.began = false ∨ J.id < id
  b : 0 < i → i < m → J.began = true ∧ J.id = id ∧ J.ps.length = m ∧ PsOk bl sz J.ps ∧ haves J.ps = i ∧ ∀ (k : Nat) (x : PtV), J.ps[k]? = some x → (x.there = true ↔ ∃ (i' : Nat) (y : PcV), i' < i ∧ l[i']? = some y ∧ y.at_ = k)
  c : i = m → 0 < m → J = ⟨true, id, []⟩
theorem haves_none (m : Nat) : haves (List.replicate m noPt) = 0 := by
  unfold haves
  rw [List.filter_replicate]
  simp [noPt]
theorem MS.ahead {bl : List Int} {sz m i : Nat} {id : Int} {l : List PcV} {J : PjM} (h : MS bl sz m id l i J) (hi : i < m) :
    ((J.began = false ∨ J.id < id) ∨ (J.began = true ∧ J.id = id ∧ J.ps.length = m)) ∧ (aheadP J id m).length = m ∧ PsOk bl sz (aheadP J id m) ∧ haves (aheadP J id m) = i ∧
      ∀ (k : Nat) (x : PtV), (aheadP J id m)[k]? = some x → (x.there = true ↔ ∃ (i' : Nat) (y : PcV), i' < i ∧ l[i']? = some y ∧ y.at_ = k) := by
  by_cases h0 : i = 0
  · have ha := h.a h0
    have e : aheadP J id m = List.replicate m noPt := by
      unfold aheadP
      rw [if_neg]
      rintro ⟨a, b⟩
      rcases ha with h | h
      · rw [a] at h; cases h
      · omega
    rw [e]
    refine ⟨.inl ha, List.length_replicate, PsOk.new _ _ _, by rw [haves_none, h0], fun k x hx => ?_⟩
    rw [List.eq_of_mem_replicate (List.mem_of_getElem? hx)]
    constructor
    · intro h; cases h
    · rintro ⟨i', y, h1, -⟩; omega
  · obtain ⟨b1, b2, b3, b4, b5, b6⟩ := h.b (by omega) hi
    have e : aheadP J id m = J.ps := by unfold aheadP; rw [if_pos ⟨b1, b2⟩]
    rw [e]
    exact ⟨.inr ⟨b1, b2, b3⟩, b3, b4, b5, b6⟩
theorem MS.step {bl : List Int} {sz m i k : Nat} {id : Int} {l : List PcV} {J : PjM} {x : PcV} {p : PV} (h : MS bl sz m id l i J) (hl : PcsOk bl sz m id l) (hi : i < m) (hx : l[i]? = some x) (hxk : x.at_ = k) (hp : PvOk bl sz m id p k) (hm : bl.length ≤ m * sz) (v : Value) :
    ∃ J', takeR J p (pieceL bl sz k) v = (0, decide (i + 1 = m), if i + 1 = m then bl else [], J') ∧ MS bl sz m id l (i + 1) J' := by
  obtain ⟨h1, h2, h3, h4, h5⟩ := h.ahead hi
  have hkm : k < m := hp.2.2.2.2.1
  obtain ⟨z, hz⟩ : ∃ z, (aheadP J id m)[k]? = some z := ⟨_, List.getElem?_eq_getElem (by omega)⟩
  have hzt : z.there = false := by
    cases hb : z.there with
    | false => rfl
    | true =>
      obtain ⟨i', y, g1, g2, g3⟩ := (h5 k z hz).1 hb
      have := hl.inj i' i y x g2 hx (by rw [g3, hxk])
      omega
  rw [take_fresh hp h1 h3 ⟨z, hz, hzt⟩ v, h4]
  generalize aheadP J id m = ps at *
  by_cases he : i + 1 < m
  · rw [if_pos he, decide_eq_false (by omega), if_neg (by omega)]
    refine ⟨_, rfl, fun h => absurd h (by omega), fun _ _ => ⟨rfl, rfl, by rw [List.length_set]; exact h2, h3.put (by omega) v, by rw [haves_set hz hzt rfl, h4], fun j y hy => ?_⟩, fun h => absurd h (by omega)⟩
    simp only [List.getElem?_set] at hy
    split at hy
    · rename_i e
      subst e
      rw [if_pos (by omega)] at hy
      simp only [Option.some.injEq] at hy
      subst hy
      exact ⟨fun _ => ⟨i, x, by omega, hx, hxk⟩, fun _ => rfl⟩
    · rename_i e
      rw [h5 j y hy]
      constructor
      · rintro ⟨i', t, g1, g2, g3⟩
        exact ⟨i', t, by omega, g2, g3⟩
      · rintro ⟨i', t, g1, g2, g3⟩
        refine ⟨i', t, ?_, g2, g3⟩
        by_cases e2 : i' = i
        · subst e2
          rw [hx] at g2
          cases g2
          omega
        · omega
  · have he2 : i + 1 = m := by omega
    rw [if_neg he, decide_eq_true he2, if_pos he2]
    have hall : haves (ps.set k ⟨true, v, pieceL bl sz k⟩) = (ps.set k ⟨true, v, pieceL bl sz k⟩).length := by rw [haves_set hz hzt rfl, h4, List.length_set]; omega
    have ht := texts_all (h3.put (k := k) (by omega) v) (haves_all hall) m (by rw [List.length_set]; omega)
    rw [List.take_of_length_le (by rw [List.length_set]; omega), List.take_of_length_le hm] at ht
    rw [ht]
    exact ⟨_, rfl, fun h => absurd h (by omega), fun _ h => absurd h (by omega), fun _ _ => rfl⟩
/-- A piece that was taken is taken once more. -/
theorem MS.again {bl : List Int} {sz m i j k : Nat} {id : Int} {l : List PcV} {J : PjM} {x : PcV} {p : PV} (h : MS bl sz m id l (i + 1) J) (hi : i < m) (hj : j ≤ i) (hx : l[j]? = some x) (hxk : x.at_ = k) (hp : PvOk bl sz m id p k) (v : Value) :
    takeR J p (pieceL bl sz k) v = (if i + 1 = m then 27 else 0, false, [], J) := by
  have hkm : k < m := hp.2.2.2.2.1
  by_cases he : i + 1 = m
  · rw [if_pos he, h.c he (by omega)]
    exact take_over hp v
  · obtain ⟨b1, b2, b3, b4, b5, b6⟩ := h.b (by omega) (by omega)
    rw [if_neg he]
    obtain ⟨jb, jid, ps⟩ := J
    simp only [] at b1 b2 b3 b4 b5 b6
    subst b1 b2
    obtain ⟨z, hz⟩ : ∃ z, ps[k]? = some z := ⟨_, List.getElem?_eq_getElem (by omega)⟩
    exact take_again hp b3 b4 ⟨z, hz, (b6 k z hz).2 ⟨j, x, by omega, hx, hxk⟩⟩ (by omega) v
theorem manyN_covers {n sz : Nat} (hs : 1 ≤ sz) : n ≤ manyN n sz * sz := by
  unfold manyN
  have h1 := Nat.div_add_mod n sz
  have h2 := Nat.mod_lt n (show sz > 0 by omega)
  rw [Nat.mul_comm] at h1
  split
  · rw [Nat.add_mul]; omega
  · rename_i h
    have : n % sz = 0 := by
      false_or_by_contra
      rename_i hne
      exact h (.inl hne)
    omega
end Go.Proofs.Ytlgcpfeaecpocaa
