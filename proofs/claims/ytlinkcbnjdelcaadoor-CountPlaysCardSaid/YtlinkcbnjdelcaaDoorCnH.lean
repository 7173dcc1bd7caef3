/-
  The steps that came in.
-/
import Derived.Test.YtlinkcbnjdelcaaDoorCnA
import Derived.ProofKit
import Derived.Deep.Slices
import Derived.Deep.Fields
namespace Go.Proofs.YtlinkcbnjdelcaaDoor
open Go.RowKit Go.ChangeShapes Go.WideShapes Go.ChangeAt Go.Deep
theorem cells27 : Tryd.prog.cellsOf 27 = 2 := by kernel_rfl
theorem cells2 : Tryd.prog.cellsOf 2 = 1 := by kernel_rfl
theorem cells3 : Tryd.prog.cellsOf 3 = 1 := by kernel_rfl
/-- A slice of steps, as it came in. -/
def IsOps (W : World) (a : Option Addr) (len : Nat) (f : Nat → Int × Int) : Prop :=
  len ≤ maxLen ∧ (0 < len → ∃ b off, a = some ⟨b, off, none⟩ ∧ b < W.heap.size ∧ ∀ i, i < len → W.cell? ⟨b, off + i * 2, none⟩ = some (.int .i64 (f i).1) ∧ W.cell? ⟨b, off + i * 2 + 1, none⟩ = some (.int .i64 (f i).2) ∧ (Lit.int .i64 (f i).1).wf = true ∧ (Lit.int .i64 (f i).2).wf = true)
theorem row_ops {H : Type} {enc : TypeId × Value → H} {W : World} {a : Option Addr} {len cap : Nat} {d : DataW H} {p : List MemPlace}
    (k : DataW.Trod enc Tryd.prog W 0 (fun _ => true) true 22 (.slice a len cap) d p) : ∃ f, IsOps W a len f := by
  obtain ⟨fuel, hf⟩ := k
  rcases open_slice Tryd.underlying22 hf with ⟨hcs, _⟩ | ⟨x, l, c, m, n, D, Pl, hcs, hb, hl, hm, hmm, hx, hi⟩
  · simp [Value.cells] at hcs
    obtain ⟨rfl, rfl, rfl⟩ := hcs
    exact ⟨fun _ => (0, 0), by unfold maxLen; omega, fun h => by omega⟩
  · simp [Value.cells] at hcs
    obtain ⟨rfl, rfl, rfl⟩ := hcs
    have hmc : m = cap := by simpa using hmm
    subst hmc
    have each : ∀ i, i < m → ∃ u v : Int, W.cell? (x.add (i * 2)) = some (.int .i64 u) ∧ W.cell? (x.add (i * 2 + 1)) = some (.int .i64 v) ∧ (Lit.int .i64 u).wf = true ∧ (Lit.int .i64 v).wf = true := fun i him => by
      obtain ⟨cs, hc, ht⟩ := hi i him
      rw [cells27] at hc
      obtain ⟨_, hcl, hat⟩ := World.cells?_some hc
      match cs, hcl with
      | [v0, v1], _ =>
        obtain ⟨y0, y1, n2, _, _, t0, t1⟩ := trod_struct2 Tryd.underlying27 ht
        simp only [List.drop_zero, List.drop_succ_cons, cells3, cells2, List.take_succ_cons, List.take_zero] at t0 t1
        obtain ⟨u, e0, _, wu⟩ := DataW.trod_int Tryd.underlying3 t0
        obtain ⟨v, e1, _, wv⟩ := DataW.trod_int Tryd.underlying2 t1
        simp only [List.cons.injEq, and_true] at e0 e1
        subst e0 e1
        have h0 := hat 0 (by omega)
        have h1 := hat 1 (by omega)
        rw [add_add] at h0 h1
        exact ⟨u, v, by simpa using h0, by simpa using h1, wu, wv⟩
    have hex : ∃ f : Nat → Int × Int, ∀ i, i < m → W.cell? (x.add (i * 2)) = some (.int .i64 (f i).1) ∧ W.cell? (x.add (i * 2 + 1)) = some (.int .i64 (f i).2) ∧ (Lit.int .i64 (f i).1).wf = true ∧ (Lit.int .i64 (f i).2).wf = true := by
      refine ⟨fun i => if h : i < m then (Classical.choose (each i h), Classical.choose (Classical.choose_spec (each i h))) else (0, 0), fun i hi => ?_⟩
      simp only [hi, dif_pos]
      exact Classical.choose_spec (Classical.choose_spec (each i hi))
    obtain ⟨f, hf'⟩ := hex
    refine ⟨f, by omega, fun h0 => ?_⟩
    obtain ⟨b, off, spot⟩ := x
    have h1 := (hf' 0 (by omega)).1
    have hspot : spot = none := by simpa [Addr.add] using World.cell?_spot h1
    subst hspot
    refine ⟨b, off, rfl, World.block_lt_of_cell? W _ h1, fun i hi => ?_⟩
    have := hf' i (by omega)
    rw [add_plain, add_plain] at this
    exact this
end Go.Proofs.YtlinkcbnjdelcaaDoor
