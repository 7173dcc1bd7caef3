/-
  How the slice of numbers that comes in is opened for the walks of WindowOnce and WindowPlays.
-/
import Derived.Test.YtoembbdjpelogaaOnce
import Derived.ProofKit
import Derived.Deep.Slices
import Derived.Deep.Fields
namespace Go.Proofs.Ytoembbdjpelogaa
open Go.ChangeShapes Go.WideShapes Go.ChangeAt Go.RowKit Go.Deep

theorem cells75 : Try.prog.cellsOf 75 = 2 := by kernel_rfl
theorem cells73 : Try.prog.cellsOf 73 = 1 := by kernel_rfl

theorem u64_range {n : Int} (h : (Lit.int .u64 n).wf = true) : 0 ≤ n ∧ n < 18446744073709551616 := by
  have : 0 ≤ n ∧ n ≤ 18446744073709551615 := by simpa [Lit.wf, IntKind.min, IntKind.max, IntKind.signed, IntKind.bits] using h
  omega

theorem row_ops {H : Type} {enc : TypeId × Value → H} {W : World} {a : Option Addr} {len cap : Nat} {d : DataW H} {p : List MemPlace}
    (k : DataW.Trod enc Try.prog W 0 (fun _ => true) true 72 (.slice a len cap) d p) : ∃ f, IsOps W a len f := by
  obtain ⟨fuel, hf⟩ := k
  rcases open_slice Try.underlying72 hf with ⟨hcs, _⟩ | ⟨x, l, c, m, n, D, Pl, hcs, hb, hl, hm, hmm, hx, hi⟩
  · simp [Value.cells] at hcs
    obtain ⟨rfl, rfl, rfl⟩ := hcs
    exact ⟨fun _ => (0, 0), by unfold maxLen; omega, fun h => by omega⟩
  · simp [Value.cells] at hcs
    obtain ⟨rfl, rfl, rfl⟩ := hcs
    have hmc : m = cap := by simpa using hmm
    subst hmc
    have each : ∀ i, i < m → ∃ u v : Nat, W.cell? (x.add (i * 2)) = some (.int .u64 u) ∧ W.cell? (x.add (i * 2 + 1)) = some (.int .u64 v) ∧ u < 18446744073709551616 ∧ v < 18446744073709551616 := fun i him => by
      obtain ⟨cs, hc, ht⟩ := hi i him
      rw [cells75] at hc
      obtain ⟨_, hcl, hat⟩ := World.cells?_some hc
      match cs, hcl with
      | [v0, v1], _ =>
        obtain ⟨y0, y1, n2, _, _, t0, t1⟩ := trod_struct2 Try.underlying75 ht
        simp only [List.drop_zero, List.drop_succ_cons, cells73, List.take_succ_cons, List.take_zero] at t0 t1
        obtain ⟨u, e0, _, wu⟩ := DataW.trod_int Try.underlying73 t0
        obtain ⟨v, e1, _, wv⟩ := DataW.trod_int Try.underlying73 t1
        simp only [List.cons.injEq, and_true] at e0 e1
        subst e0 e1
        obtain ⟨u0, u1⟩ := u64_range wu
        obtain ⟨q0, q1⟩ := u64_range wv
        obtain ⟨u, rfl⟩ := Int.eq_ofNat_of_zero_le u0
        obtain ⟨v, rfl⟩ := Int.eq_ofNat_of_zero_le q0
        have h0 := hat 0 (by omega)
        have h1 := hat 1 (by omega)
        rw [add_add] at h0 h1
        exact ⟨u, v, by simpa using h0, by simpa using h1, by omega, by omega⟩
    have hex : ∃ f : Nat → Nat × Nat, ∀ i, i < m → W.cell? (x.add (i * 2)) = some (.int .u64 (f i).1) ∧ W.cell? (x.add (i * 2 + 1)) = some (.int .u64 (f i).2) ∧ (f i).1 < 18446744073709551616 ∧ (f i).2 < 18446744073709551616 := by
      refine ⟨fun i => if h : i < m then (Classical.choose (each i h), Classical.choose (Classical.choose_spec (each i h))) else (0, 0), fun i hi => ?_⟩
      simp only [hi, dif_pos]
      exact Classical.choose_spec (Classical.choose_spec (each i hi))
    obtain ⟨f, hf'⟩ := hex
    refine ⟨f, by omega, fun h0 => ?_⟩
    obtain ⟨b, off, spot⟩ := x
    have h1 := (hf' 0 (by omega)).1
    have hspot : spot = none := by simpa [Addr.add] using World.cell?_spot h1
    subst hspot
    refine ⟨b, off, rfl, World.block_lt_of_cell? W _ h1, fun i hi => ?_⟩
    have := hf' i (by omega)
    rw [add_plain, add_plain] at this
    exact this
end Go.Proofs.Ytoembbdjpelogaa
