/-
  A row of rows of bytes that came in.
-/
import Derived.Test.YtpljjmdkagbjpaaDoorBase
namespace Go.Proofs.YtpljjmdkagbjpaaDoor
open Go.RowKit

/-- The slice v shows rows of bytes. -/
def HoldsP (w : World) (v : Value) (zs : List (List Int)) : Prop :=
  ∃ a cap, v = .slice a zs.length cap ∧ zs.length ≤ maxLen ∧ ∀ i, i < zs.length → ∃ b off a1 n1 c1, a = some ⟨b, off, none⟩ ∧ b < w.heap.size ∧ w.cell? ⟨b, off + i, none⟩ = some (.slice a1 n1 c1) ∧ HoldsB w w.heap.size (.slice a1 n1 c1) (zs.getD i [])
theorem HoldsP.keep {w w' : World} {v : Value} {zs : List (List Int)} (h : HoldsP w v zs) (hb : Below w.heap.size w w') : HoldsP w' v zs := by
  obtain ⟨a, cap, h1, h2, h3⟩ := h
  refine ⟨a, cap, h1, h2, fun i hi => ?_⟩
  obtain ⟨b, off, a1, n1, c1, e1, e2, e3, e4⟩ := h3 i hi
  exact ⟨b, off, a1, n1, c1, e1, Nat.lt_of_lt_of_le e2 hb.size, (hb.cell (p := ⟨b, off + i, none⟩) e2).trans e3, (e4.keep hb).mono hb.size⟩
theorem HoldsP.slice {w : World} {v : Value} {zs : List (List Int)} (h : HoldsP w v zs) : ∃ a n cap, v = .slice a n cap ∧ n = zs.length := by
  obtain ⟨a, cap, h1, _⟩ := h
  exact ⟨a, _, cap, h1, rfl⟩
open Go.ChangeShapes Go.WideShapes Go.ChangeAt Go.Deep in
theorem trod_row {H : Type} {enc : TypeId × Value → H} {W : World} {n : Nat} {V : Value} {d : DataW H} {p : List MemPlace}
    (h : DataW.trod enc Tryd.prog W 0 (fun _ => true) true n 32 [V] = some (d, p)) : ∃ a len cap l, V = .slice a len cap ∧ HoldsB W W.heap.size (.slice a len cap) l := by
  rcases open_slice1 Tryd.underlying32 (by kernel_rfl) h with ⟨hcs, _⟩ | ⟨x, l, c, m, n', V', D, Pl, hcs, _⟩
  · simp only [List.cons.injEq, and_true] at hcs
    subst hcs
    exact ⟨_, _, _, [], rfl, HoldsB.nil _ _⟩
  · simp only [List.cons.injEq, and_true] at hcs
    subst hcs
    obtain ⟨l', h'⟩ := row_bytes (enc := enc) (W := W) (a := some x) (len := l) (cap := c) (d := d) (p := p) ⟨n, h⟩
    exact ⟨_, _, _, l', rfl, h'⟩
open Go.ChangeShapes Go.WideShapes Go.ChangeAt Go.Deep in
/-- A slice of slices of bytes that came in. -/
theorem row_parts {H : Type} {enc : TypeId × Value → H} {W : World} {a : Option Addr} {len cap : Nat} {d : DataW H} {p : List MemPlace}
    (k : DataW.Trod enc Tryd.prog W 0 (fun _ => true) true 37 (.slice a len cap) d p) : ∃ zs, HoldsP W (.slice a len cap) zs := by
  obtain ⟨fuel, hf⟩ := k
  rcases open_slice1 Tryd.underlying37 (by kernel_rfl) hf with ⟨hcs, _⟩ | ⟨x, l, c, m, n, V, D, Pl, hcs, hb, hl, hm, hmm, hx, hi⟩
  · simp [Value.cells] at hcs
    obtain ⟨rfl, rfl, rfl⟩ := hcs
    exact ⟨[], none, 0, rfl, by unfold maxLen; simp, fun i hi => by simp at hi⟩
  · simp [Value.cells] at hcs
    obtain ⟨rfl, rfl, rfl⟩ := hcs
    have hmc : m = cap := by simpa using hmm
    have each : ∀ i, i < len → ∃ l', ∃ a1 n1 c1, W.cell? (x.add i) = some (.slice a1 n1 c1) ∧ HoldsB W W.heap.size (.slice a1 n1 c1) l' := fun i him => by
      obtain ⟨hc, ht⟩ := hi i (by omega)
      obtain ⟨a1, n1, c1, l', e, hh⟩ := trod_row ht
      rw [e] at hc
      exact ⟨l', a1, n1, c1, hc, hh⟩
    obtain ⟨f, hf'⟩ : ∃ f : Nat → List Int, ∀ i, i < len → ∃ a1 n1 c1, W.cell? (x.add i) = some (.slice a1 n1 c1) ∧ HoldsB W W.heap.size (.slice a1 n1 c1) (f i) := by
      refine ⟨fun i => if h : i < len then Classical.choose (each i h) else [], fun i hi => ?_⟩
      simp only [hi, dif_pos]
      exact Classical.choose_spec (each i hi)
    refine ⟨(List.range len).map f, some x, cap, by simp, by simp; omega, fun i hi' => ?_⟩
    simp at hi'
    obtain ⟨a1, n1, c1, e1, e2⟩ := hf' i hi'
    have hsp : x.spot = none ∧ x.block < W.heap.size := by
      obtain ⟨_, _, _, h1, _⟩ := hf' 0 (by omega)
      have h2 : x.add 0 = x := by simp [Addr.add]
      rw [h2] at h1
      exact ⟨World.cell?_spot h1, World.block_lt_of_cell? W _ h1⟩
    obtain ⟨b, off, spot⟩ := x
    simp only at hsp
    obtain ⟨rfl, hlt⟩ := hsp
    have e : (⟨b, off, none⟩ : Addr).add i = ⟨b, off + i, none⟩ := by unfold Addr.add; split <;> simp_all
    rw [e] at e1
    refine ⟨b, off, a1, n1, c1, rfl, hlt, e1, ?_⟩
    rw [List.getD_eq_getElem?_getD, List.getElem?_map, List.getElem?_range hi']
    exact e2
end Go.Proofs.YtpljjmdkagbjpaaDoor
