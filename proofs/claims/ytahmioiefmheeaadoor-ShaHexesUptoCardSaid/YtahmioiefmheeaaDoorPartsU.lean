/-
  How many bytes rows of bytes that came in hold together, where all that came in is of bounded bulk.
-/
import Derived.Test.YtahmioiefmheeaaDoorRows
import Derived.Test.YtahmioiefmheeaaDoorParts
namespace Go.Proofs.YtahmioiefmheeaaDoor
open Go.ChangeShapes Go.WideShapes Go.ChangeAt Go.RowKit Go.Deep

theorem bulk_one {H : Type} (d : DataW H) : 1 ≤ Rows.uptoBulk d := by
  cases d with
  | lit l => cases l <;> simp [Rows.uptoBulk]
  | nil => simp [Rows.uptoBulk]
  | ptr d => simp [Rows.uptoBulk]
  | slice elems spare => simp [Rows.uptoBulk]
  | agg parts => simp [Rows.uptoBulk]
  | iface t d => simp [Rows.uptoBulk]
  | map entries => simp [Rows.uptoBulk]
  | held h => simp [Rows.uptoBulk]
theorem bulk_part {H : Type} {d : DataW H} {l : List (DataW H)} (h : d ∈ l) : Rows.uptoBulk d ≤ Rows.uptoBulkAll l := by
  induction l with
  | nil => cases h
  | cons x r ih =>
    simp only [Rows.uptoBulkAll]
    cases List.mem_cons.1 h with
    | inl e => subst e; omega
    | inr e => have := ih e; omega
theorem bulk_append {H : Type} (l r : List (DataW H)) : Rows.uptoBulkAll (l ++ r) = Rows.uptoBulkAll l + Rows.uptoBulkAll r := by
  induction l with
  | nil => simp [Rows.uptoBulkAll]
  | cons x l ih => simp only [List.cons_append, Rows.uptoBulkAll, ih]; omega
theorem bulk_len {H : Type} (l : List (DataW H)) : l.length ≤ Rows.uptoBulkAll l := by
  induction l with
  | nil => simp [Rows.uptoBulkAll]
  | cons x r ih => have := bulk_one x; simp only [Rows.uptoBulkAll, List.length_cons]; omega
theorem bulk_slice {H : Type} (elems spare : List (DataW H)) : Rows.uptoBulkAll elems + 1 ≤ Rows.uptoBulk (.slice elems spare) := by
  simp only [Rows.uptoBulk]
  omega
theorem trod_rowU {H : Type} {enc : TypeId × Value → H} {W : World} {n : Nat} {V : Value} {d : DataW H} {p : List MemPlace}
    (h : DataW.trod enc Tryd.prog W 0 (fun _ => true) true n 22 [V] = some (d, p)) : ∃ a len cap l, V = .slice a len cap ∧ HoldsB W W.heap.size (.slice a len cap) l ∧ l.length ≤ Rows.uptoBulk d := by
  obtain ⟨a, len, cap, l, e, hb⟩ := trod_row h
  refine ⟨a, len, cap, l, e, hb, ?_⟩
  have hl : len = l.length := by obtain ⟨a', n', c', e', hn⟩ := hb.slice; simp only [Value.slice.injEq] at e'; omega
  rcases open_slice1 Tryd.underlying22 (by kernel_rfl) h with ⟨hcs, _⟩ | ⟨x, l2, c, m, n', V', D, Pl, hcs, _, _, _, _, hx, _⟩
  · simp only [List.cons.injEq, and_true] at hcs
    rw [hcs] at e
    simp only [Value.slice.injEq] at e
    omega
  · simp only [List.cons.injEq, and_true] at hcs
    rw [hcs] at e
    simp only [Value.slice.injEq] at e
    simp only [Prod.mk.injEq] at hx
    rw [hx.1]
    have h1 := bulk_slice ((List.range l2).map D) ((List.range (m - l2)).map fun j => D (l2 + j))
    have h2 := bulk_len ((List.range l2).map D)
    simp only [List.length_map, List.length_range] at h2
    omega
theorem flat_bulk {H : Type} (f : Nat → List Int) (D : Nat → DataW H) (n : Nat) (h : ∀ i, i < n → (f i).length ≤ Rows.uptoBulk (D i)) : ((List.range n).map f).flatten.length ≤ Rows.uptoBulkAll ((List.range n).map D) := by
  induction n with
  | zero => simp [Rows.uptoBulkAll]
  | succ n ih =>
    have h1 := ih fun i hi => h i (by omega)
    have h2 := h n (by omega)
    rw [List.range_succ, List.map_append, List.map_append, bulk_append, List.flatten_append, List.length_append]
    simp only [List.map_cons, List.map_nil, List.flatten_cons, List.flatten_nil, List.append_nil, Rows.uptoBulkAll]
    omega
/-- A slice of slices of bytes that came in, and how long they are together. -/
theorem row_partsU {H : Type} {enc : TypeId × Value → H} {W : World} {a : Option Addr} {len cap : Nat} {d : DataW H} {p : List MemPlace}
    (k : DataW.Trod enc Tryd.prog W 0 (fun _ => true) true 31 (.slice a len cap) d p) : ∃ zs, HoldsP W (.slice a len cap) zs ∧ zs.flatten.length ≤ Rows.uptoBulk d := by
  obtain ⟨fuel, hf⟩ := k
  rcases open_slice1 Tryd.underlying31 (by kernel_rfl) hf with ⟨hcs, hx⟩ | ⟨x, l, c, m, n, V, D, Pl, hcs, hb, hl, hm, hmm, hx, hi⟩
  · simp [Value.cells] at hcs
    obtain ⟨rfl, rfl, rfl⟩ := hcs
    exact ⟨[], ⟨none, 0, rfl, by unfold maxLen; simp, fun i hi => by simp at hi⟩, by simp⟩
  · simp [Value.cells] at hcs
    obtain ⟨rfl, rfl, rfl⟩ := hcs
    have hmc : m = cap := by simpa using hmm
    simp only [Prod.mk.injEq] at hx
    have each : ∀ i, i < len → ∃ l', (∃ a1 n1 c1, W.cell? (x.add i) = some (.slice a1 n1 c1) ∧ HoldsB W W.heap.size (.slice a1 n1 c1) l') ∧ l'.length ≤ Rows.uptoBulk (D i) := fun i him => by
      obtain ⟨hc, ht⟩ := hi i (by omega)
      obtain ⟨a1, n1, c1, l', e, hh, hle⟩ := trod_rowU ht
      rw [e] at hc
      exact ⟨l', ⟨a1, n1, c1, hc, hh⟩, hle⟩
    obtain ⟨f, hf'⟩ : ∃ f : Nat → List Int, ∀ i, i < len → (∃ a1 n1 c1, W.cell? (x.add i) = some (.slice a1 n1 c1) ∧ HoldsB W W.heap.size (.slice a1 n1 c1) (f i)) ∧ (f i).length ≤ Rows.uptoBulk (D i) := by
      refine ⟨fun i => if h : i < len then Classical.choose (each i h) else [], fun i hi => ?_⟩
      simp only [hi, dif_pos]
      exact Classical.choose_spec (each i hi)
    refine ⟨(List.range len).map f, ⟨some x, cap, by simp, by simp; omega, fun i hi' => ?_⟩, ?_⟩
    · simp at hi'
      obtain ⟨a1, n1, c1, e1, e2⟩ := (hf' i hi').1
      have hsp : x.spot = none ∧ x.block < W.heap.size := by
        obtain ⟨_, _, _, h1, _⟩ := (hf' 0 (by omega)).1
        have h2 : x.add 0 = x := by simp [Addr.add]
        rw [h2] at h1
        exact ⟨World.cell?_spot h1, World.block_lt_of_cell? W _ h1⟩
      obtain ⟨b, off, spot⟩ := x
      simp only at hsp
      obtain ⟨rfl, hlt⟩ := hsp
      have e : (⟨b, off, none⟩ : Addr).add i = ⟨b, off + i, none⟩ := by unfold Addr.add; split <;> simp_all
      rw [e] at e1
      refine ⟨b, off, a1, n1, c1, rfl, hlt, e1, ?_⟩
      rw [List.getD_eq_getElem?_getD, List.getElem?_map, List.getElem?_range hi']
      exact e2
    · have h1 := flat_bulk f D len fun i hi => (hf' i hi).2
      have h2 := bulk_slice ((List.range len).map D) ((List.range (m - len)).map fun j => D (len + j))
      rw [hx.1]
      omega
end Go.Proofs.YtahmioiefmheeaaDoor
