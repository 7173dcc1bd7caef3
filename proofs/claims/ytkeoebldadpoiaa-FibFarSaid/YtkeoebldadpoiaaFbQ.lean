/-
  A queue of ints: a slice into a row of the call's own, from any place of it on.
-/
import Derived.Test.YtkeoebldadpoiaaFbP
import Derived.Test.YtkeoebldadpoiaaFbJ
namespace Go.Proofs.Ytkeoebldadpoiaa
open Go.RowKit

/-- A slice of ints in a block of the call's own (other than F), from some place on. -/
def OwnQ (w : World) (A F : Nat) (v : Value) (Q : List Int) : Prop :=
  ∃ g o cap cur, v = .slice (some ⟨g, o, none⟩) Q.length cap ∧ A ≤ g ∧ g ≠ F ∧ w.heap[g]? = some (.cells cur 3 (0, 0)) ∧ Q.length ≤ cap ∧ cap ≤ maxLen ∧ o + cap ≤ cur.size ∧ ∀ j, j < Q.length → cur[o + j]? = some (.int .i64 (Q.getD j default))
theorem OwnQ.shape {w : World} {A F : Nat} {v : Value} {Q : List Int} (h : OwnQ w A F v Q) : ∃ g o cap, v = .slice (some ⟨g, o, none⟩) Q.length cap ∧ Q.length ≤ cap := by
  obtain ⟨g, o, cap, cur, h1, _, _, _, h5, _⟩ := h
  exact ⟨g, o, cap, h1, h5⟩
theorem OwnQ.one {w : World} {A F g : Nat} {x : Int} (hA : A ≤ g) (hF : g ≠ F) (h : Blk w g (.cells #[.int .i64 x] 3)) : OwnQ w A F (.slice (some ⟨g, 0, none⟩) 1 1) [x] :=
  ⟨g, 0, 1, _, rfl, hA, hF, h, Nat.le_refl _, by unfold maxLen; omega, Nat.le_refl _, fun j hj => by
    have : j = 0 := by simpa using hj
    subst this
    rfl⟩
theorem OwnQ.keep {w w' : World} {A F : Nat} {v : Value} {Q : List Int} (h : OwnQ w A F v Q) (hb : ∀ k, k < w.heap.size → k ≠ F → w'.heap[k]? = w.heap[k]?) : OwnQ w' A F v Q := by
  obtain ⟨g, o, cap, cur, h1, h2, h3, h4, h5⟩ := h
  exact ⟨g, o, cap, cur, h1, h2, h3, (hb g (Array.getElem?_eq_some_iff.1 h4).1 h3).trans h4, h5⟩
theorem OwnQ.head {w : World} {A F b off n cap : Nat} {x : Int} {Q : List Int} (h : OwnQ w A F (.slice (some ⟨b, off, none⟩) n cap) (x :: Q)) : w.cell? ⟨b, off, none⟩ = some (.int .i64 x) := by
  obtain ⟨g, o, cap', cur, h1, h2, h3, h4, h5, h6, h7, h8⟩ := h
  cases h1
  rw [cell_of_row w b off cur 3 (0, 0) h4]
  exact h8 0 (by simp)
theorem OwnQ.tail {w : World} {A F b off n cap : Nat} {x : Int} {Q : List Int} (h : OwnQ w A F (.slice (some ⟨b, off, none⟩) n cap) (x :: Q)) :
    OwnQ w A F (.slice (if cap = 1 then some ⟨b, off, none⟩ else some ⟨b, off + 1, none⟩) Q.length (cap - 1)) Q := by
  obtain ⟨g, o, cap', cur, h1, h2, h3, h4, h5, h6, h7, h8⟩ := h
  cases h1
  simp only [List.length_cons] at h5
  by_cases hc : cap = 1
  · have hq : Q = [] := List.eq_nil_of_length_eq_zero (by omega)
    subst hq
    rw [if_pos hc]
    exact ⟨b, off, cap - 1, cur, rfl, h2, h3, h4, by simp, by omega, by omega, fun j hj => absurd hj (by simp)⟩
  · rw [if_neg hc]
    refine ⟨b, off + 1, cap - 1, cur, rfl, h2, h3, h4, by omega, by omega, by omega, fun j hj => ?_⟩
    have := h8 (j + 1) (by simpa using hj)
    rw [show off + 1 + j = off + (j + 1) by omega]
    exact this
theorem addr_add (b off n : Nat) : (Addr.add { block := b, off := off, spot := none } n) = ⟨b, off + n, none⟩ := by
  unfold Addr.add
  split
  · rename_i h; subst h; rfl
  · rfl
theorem ivs_map (R : List Int) : ivs R = R.map (Value.int .i64) := by
  induction R with
  | nil => rfl
  | cons y t ih => rw [List.map_cons, ← ih]; rfl
theorem run_append_q {w : World} {A F : Nat} {v : Value} {Q : List Int} (h : OwnQ w A F v Q) (hA : A ≤ w.heap.size) (hF : F < w.heap.size) (ty : TypeId) (x : Int) (ad : Addr) (c : Nat) (hx : w.cell? ad = some (.int .i64 x)) (hl : Q.length < 1000) :
    ∃ v' w', (Builtin.append_ #[39, 39] ty #[v, .slice (some ad) 1 c]).run Try.prog w = .ok v' w' ∧ OwnQ w' A F v' (Q ++ [x]) ∧ w.grownBy w' v.ownBlock := by
  obtain ⟨i, hi, hz0, hz1, hz2⟩ := info_parts info3'
  obtain ⟨g, o, cap, cur, rfl, h2, h3, h4, h5, h6, h7, h8⟩ := h
  have hnews : ∀ j u, [Value.int .i64 x][j]? = some u → w.cell? (ad.add j) = some u := fun j u hj => by
    have hj0 : j = 0 := by have := (List.getElem?_eq_some_iff.1 hj).1; simpa using this
    subst hj0
    simp at hj
    subst hj
    simpa [Addr.add] using hx
  have hone : ∀ u ∈ [Value.int .i64 x], u.oneCell' = true := fun u hu => by simp at hu; subst hu; rfl
  have hQ : ∀ j, j < (Q ++ [x]).length → j < Q.length ∨ j = Q.length := fun j hj => by simp at hj; omega
  by_cases hroom : Q.length + 1 ≤ cap
  · have hf := run_firstCells_some (P := Try.prog) w i.size 1 ad 1 c [.int .i64 x] (by rw [hz1]; rfl) hnews
    have hst := run_storeCells_at Try.prog g (o + Q.length) 3 [.int .i64 x] 0 cur w h4 (by simp; omega) hone
    simp only [Nat.add_zero] at hst
    rw [hz1] at hf
    refine ⟨.slice (some ⟨g, o, none⟩) (Q.length + 1) cap, w.setRow g (cur.toList.take (o + Q.length) ++ [Value.int .i64 x] ++ cur.toList.drop (o + Q.length + [Value.int .i64 x].length)).toArray, by
      simp [Builtin.append_, run_underlying Try.underlying39, sizeOf, typeInfo, hi, Builtin.lenOf, hroom, hf, hz1, addr_add, hst], ⟨g, o, cap, _, by simp, h2, h3, setRow_heap w g cur _ 3 _ h4, by simpa using hroom, h6, ?_, fun j hj => ?_⟩, ⟨rfl, rfl, rfl, by simp, fun k _ hk => setRow_other w g k _ (fun e => hk (by simp [Value.ownBlock, e]))⟩⟩
    · simp; omega
    · rw [List.getElem?_toArray, List.append_assoc, getD_snoc]
      rcases hQ j hj with hj | hj2
      · rw [if_pos hj, List.getElem?_append_left (by simp; omega), List.getElem?_take, if_pos (by omega), Array.getElem?_toList]
        exact h8 j hj
      · rw [hj2]
        have hk : (cur.toList.take (o + Q.length)).length = o + Q.length := by rw [List.length_take, show cur.toList.length = cur.size from Array.length_toList]; exact Nat.min_eq_left (by omega)
        rw [if_neg (by omega), if_pos rfl, List.getElem?_append_right (by omega), hk, Nat.sub_self]
        rfl
  · have holds : ∀ j u, (ivs Q)[j]? = some u → w.cell? ((⟨g, o, none⟩ : Addr).add j) = some u := fun j u hj => by
      have hjl : j < Q.length := by have := (List.getElem?_eq_some_iff.1 hj).1; rw [ivs_len] at this; omega
      rw [addr_add, cell_of_row w g (o + j) cur 3 (0, 0) h4, h8 j hjl, ← hj, ivs_map, List.getElem?_map, List.getElem?_eq_getElem hjl, gd hjl]
      rfl
    have hr := run_append_grow (P := Try.prog) w 39 ty 3 i _ Try.underlying39 hi hz0 ⟨g, o, none⟩ Q.length cap (ivs Q) (by rw [ivs_len, hz1]) holds ad 1 c [.int .i64 x] (by rw [hz1]; rfl) hnews (by omega) (by omega) (growslice_fits (by omega) (by rw [hz2]; omega))
    refine ⟨_, _, hr, ⟨w.heap.size, 0, grownCap w (Q.length + 1) cap 3, _, by simp, hA, by omega, heap_alloc_new w.drew _, by simpa using grownCap_ge w (Q.length + 1) cap 3, grownCap_le_maxLen w _ _ _ (by unfold maxLen; omega), ?_, fun j hj => ?_⟩, ⟨rfl, rfl, rfl, by simp, fun k hk _ => heap_alloc_old _ _ hk⟩⟩
    · have := grownCap_ge w (Q.length + 1) cap 3
      have e : (ivs Q).length = Q.length := by rw [ivs_len]; omega
      simp only [Array.size_append, List.size_toArray, size_zeroCells, e]
      simp [Value.cells]
      omega
    · have e : (ivs Q).length = Q.length := by rw [ivs_len]; omega
      have e2 : (ivs Q ++ [Value.int .i64 x])[j]? = some (.int .i64 ((Q ++ [x]).getD j default)) := by
        rw [ivs_snoc]
        have hj' : j < (Q ++ [x]).length := hj
        generalize Q ++ [x] = R at hj' ⊢
        rw [ivs_map, List.getElem?_map, List.getElem?_eq_getElem hj', gd hj']
        rfl
      rw [Nat.zero_add, ← e2, ← Array.getElem?_toList]
      simp only [Array.toList_append, List.toList_toArray]
      rw [List.getElem?_append_left (by rw [List.length_append, e, List.length_singleton]; simpa using hj)]
/-- One int more, at the end of a queue. -/
theorem wpList_append_q {ops : Array Oper} {rest : List Oper} {o : Oper} {a : Act} {w : World} {QQ : Exit → Act → World → Prop} (hgd : o.guard = none) (s x : Operand)
    (ho : o.op = .call { callee := .builtin .append, args := #[s, x], argTypes := #[39, 39] }) {A F : Nat} {v : Value} {Q : List Int} (hs : a.eval s = v) (h : OwnQ w A F v Q) (hA : A ≤ w.heap.size) (hF : F < w.heap.size)
    (y : Int) (ad : Addr) (c : Nat) (hx : a.eval x = .slice (some ad) 1 c) (hy : w.cell? ad = some (.int .i64 y)) (hl : Q.length < 1000)
    (hK : ∀ v' w', OwnQ w' A F v' (Q ++ [y]) → w.grownBy w' v.ownBlock → wpList Try.prog ops QQ rest (a.put o.dst v') w') : wpList Try.prog ops QQ (o :: rest) a w := by
  refine wpList_plain hgd fun K' hK' => ?_
  obtain ⟨v', w', hr, h2, h3⟩ := run_append_q h hA hF o.type y ad c hy hl
  unfold Oper.wp execOp
  simp only [ho, resolve, invoke, builtin, Sem.run_bind, Sem.run_pure, Result.andThen_ok, List.map_toArray, List.map_cons, List.map_nil, hs, hx, hr]
  exact hK' _ _ (hK v' w' h2 h3)
/-- What an append to a queue leaves as it was. -/
theorem OwnQ.other {w w' : World} {A F : Nat} {v : Value} {Q : List Int} (h : OwnQ w A F v Q) (hg : w.grownBy w' v.ownBlock) : (∀ k, k < w.heap.size → k < A → w'.heap[k]? = w.heap[k]?) ∧ (F < w.heap.size → w'.heap[F]? = w.heap[F]?) := by
  obtain ⟨g, o, cap, cur, rfl, h2, h3, _⟩ := h
  exact ⟨fun k hk hkA => hg.block k hk (by simp [Value.ownBlock]; omega), fun hF => hg.block F hF (by simp [Value.ownBlock]; omega)⟩
end Go.Proofs.Ytkeoebldadpoiaa
