/-
  The document's pieces: From, Same, and a row of them.
-/
import Derived.Test.YtioeaknhcfkfcaaPcN
namespace Go.Proofs.Ytioeaknhcfkfcaa
open Go.RowKit

theorem ownsRow_same {w w' : World} {B e sz n : Nat} {v : Value} {xs : List Value} (h : w.ownsRow B e sz v n xs) (hs : ∀ k, v.ownBlock = some k → w'.heap[k]? = w.heap[k]?) : w'.ownsRow B e sz v n xs := by
  obtain ⟨h1, h2⟩ := h
  refine ⟨h1, ?_⟩
  rcases h2 with ⟨rfl, hn⟩ | ⟨g, cap, cur, rfl, a1, a2, a3, a4, a5, a6⟩
  · exact .inl ⟨rfl, hn⟩
  · exact .inr ⟨g, cap, cur, rfl, a1, (hs g rfl).trans a2, a3, a4, a5, a6⟩
theorem ownsRow_type {w : World} {B e sz n : Nat} {v : Value} {xs : List Value} (h : w.ownsRow B e sz v n xs) {k : Nat} (hk : v.ownBlock = some k) : ∃ cur, w.heap[k]? = some (.cells cur e (0, 0)) := by
  rcases h.2 with ⟨rfl, _⟩ | ⟨g, cap, cur, rfl, a1, a2, a3, a4, a5, a6⟩
  · cases hk
  · cases hk
    exact ⟨cur, a2⟩
/-- Two own rows of unlike types: what grows one leaves the other. -/
theorem own_grown {w w' : World} {B1 B2 e1 e2 s1 s2 n1 n2 : Nat} {v1 v2 : Value} {x1 x2 : List Value} (h1 : w.ownsRow B1 e1 s1 v1 n1 x1) (h2 : w.ownsRow B2 e2 s2 v2 n2 x2) (hne : e1 ≠ e2) (hg : w.grownBy w' v2.ownBlock) : w'.ownsRow B1 e1 s1 v1 n1 x1 := by
  refine ownsRow_same h1 fun k hk => ?_
  obtain ⟨cur, hc⟩ := ownsRow_type h1 hk
  refine hg.block k (Array.getElem?_eq_some_iff.1 hc).1 fun e => ?_
  obtain ⟨cur2, hc2⟩ := ownsRow_type h2 e.symm
  rw [hc] at hc2
  simp only [Option.some.injEq, Obj.cells.injEq] at hc2
  exact hne hc2.2.1
structure DRow (w : World) (B : Nat) (v : Value) (l : List PcV) : Prop where
  r : w.ownsRow B 109 4 v l.length (rcells l)
  t : ∀ x ∈ l, w.ownsRow B 5 1 x.v x.l.length (bv x.l) ∧ Bytes x.l
theorem DRow.keep {w w' : World} {B : Nat} {v : Value} {l : List PcV} (h : DRow w B v l) (hb : Below w.heap.size w w') : DRow w' B v l := ⟨ownsRow_below h.r hb, fun x hx => ⟨ownsRow_below (h.t x hx).1 hb, (h.t x hx).2⟩⟩
theorem DRow.nil (w : World) (B : Nat) : DRow w B (.slice none 0 0) [] := ⟨World.ownsRow_nil _ _ _ _, fun x hx => by cases hx⟩
theorem DRow.push {w w' : World} {B : Nat} {v v' : Value} {l : List PcV} {x : PcV} (h : DRow w B v l) (hr : w'.ownsRow B 109 4 v' (l.length + 1) (rcells l ++ pcc x)) (hg : w.grownBy w' v.ownBlock) (hx : w.ownsRow B 5 1 x.v x.l.length (bv x.l) ∧ Bytes x.l) : DRow w' B v' (l ++ [x]) := by
  refine ⟨?_, fun y hy => ?_⟩
  · rw [List.length_append]
    have e : rcells (l ++ [x]) = rcells l ++ pcc x := by simp [rcells]
    rw [e]
    exact hr
  · rcases List.mem_append.1 hy with hy | hy
    · exact ⟨own_grown (h.t y hy).1 h.r (by decide) hg, (h.t y hy).2⟩
    · rw [List.mem_singleton.1 hy]
      exact ⟨own_grown hx.1 h.r (by decide) hg, hx.2⟩
theorem DRow.at {w : World} {B : Nat} {v : Value} {l : List PcV} (h : DRow w B v l) {i : Nat} (hi : i < l.length) : ∃ lb cap, v = .slice (some ⟨lb, 0, none⟩) l.length cap ∧ B ≤ lb ∧ lb < w.heap.size ∧ w.rangeAt lb (i * 4) (pcc l[i]) := by
  rcases h.r.2 with ⟨_, hn⟩ | ⟨g, cap, cur, rfl, a1, a2, a3, a4, a5, a6⟩
  · omega
  · refine ⟨g, cap, rfl, a1, (Array.getElem?_eq_some_iff.1 a2).1, fun j u hu => ?_⟩
    have h7 := rcells_at hi hu
    rw [cell_of_row w g (i * 4 + j) _ 109 (0, 0) a2]
    rw [← a6, List.getElem?_take] at h7
    split at h7
    · simpa using h7
    · cases h7
theorem DRow.text {w : World} {B : Nat} {v : Value} {l : List PcV} (h : DRow w B v l) {x : PcV} (hx : x ∈ l) : HoldsB w w.heap.size x.v x.l := HoldsB.ofRow (h.t x hx).2 (h.t x hx).1
theorem info25s : (Try.prog.info? 109).map (·.size) = some 4 := by kernel_rfl
def sameB (x y : PcV) : Bool := decide (x.id = y.id) && decide (x.at_ = y.at_) && decide (x.many = y.many) && decide (x.l = y.l)
end Go.Proofs.Ytioeaknhcfkfcaa
