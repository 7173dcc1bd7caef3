/-
  Rows of items that came in.
-/
import Derived.Test.YtgpjffchpppceaaBase
import Derived.OpenShut
import Derived.Deep.MidRow
import Derived.Lib.SmallJoins
namespace Go.Proofs.Ytgpjffchpppceaa
open Go.ChangeShapes Go.WideShapes Go.ChangeAt Go.RowKit Go.Deep

/-- The cells of an item: its kind, and how many at most. -/
structure ItemC (C : List Value) (kind most : Int) : Prop where
  len : C.length = 21
  one : ∀ v ∈ C, v.oneCell' = true
  k : C[0]? = some (.int .i64 kind)
  m : C[20]? = some (.int .i64 most)
  m0 : -9223372036854775808 ≤ most
  m1 : most ≤ 9223372036854775807
def IsItems (w : World) (a : Option Addr) (len : Nat) (C : Nat → List Value) : Prop :=
  len ≤ maxLen ∧ (0 < len → ∃ b off, a = some ⟨b, off, none⟩ ∧ b < w.heap.size ∧ ∀ i, i < len → w.rangeAt b (off + i * 21) (C i) ∧ ∃ kind most, ItemC (C i) kind most)

theorem c45 : Try.prog.cellsOf 45 = 21 := by kernel_rfl
theorem c41 : Try.prog.cellsOf 41 = 1 := by kernel_rfl
theorem c3 : Try.prog.cellsOf 3 = 1 := by kernel_rfl
theorem c42 : Try.prog.cellsOf 42 = 16 := by kernel_rfl
theorem c43 : Try.prog.cellsOf 43 = 1 := by kernel_rfl
theorem c26 : Try.prog.cellsOf 26 = 1 := by kernel_rfl
theorem c5 : Try.prog.cellsOf 5 = 1 := by kernel_rfl

section
variable {H : Type} {enc : TypeId × Value → H} {W : World}
theorem one_slice {t e : TypeId} {n : Nat} {v : Value} {x : DataW H × List MemPlace} (ht : Try.prog.underlying t = some (.slice e)) (h : DataW.trod enc Try.prog W 0 (fun _ => true) true n t [v] = some x) : v.oneCell' = true := by
  rcases DataW.trod_slice ht h with ⟨h1, _⟩ | ⟨a, len, cap, _, _, _, _, h1, _⟩
  · simp at h1; subst h1; rfl
  · simp at h1; subst h1; rfl
theorem one_byte {m i : Nat} {cs : List Value} {ys : List (DataW H × List MemPlace)} (hy : ys.length = 16) (h : DataW.trod enc Try.prog W 0 (fun _ => true) true m 5 cs = ys[i]?) (hi : i < 16 := by omega) : ∀ v, cs = [v] → v.oneCell' = true := by
  intro v hv
  subst hv
  rw [List.getElem?_eq_getElem (by omega)] at h
  obtain ⟨u, e0, _, _⟩ := DataW.trod_int Try.underlying5 h
  simp only [List.cons.injEq, and_true] at e0
  subst e0
  rfl
theorem item_of {n : Nat} {cs : List Value} {x : DataW H × List MemPlace} (h : DataW.trod enc Try.prog W 0 (fun _ => true) true n 45 cs = some x) : ∃ kind most, ItemC cs kind most := by
  obtain ⟨xs, m, _, _, hl, hx, hf⟩ := DataW.trod_struct Try.underlying45 h
  rw [c45] at hl
  match xs, hx with
  | [y0, y1, y2, y3, y4, y5], _ =>
  match cs, hl with
  | [v0, v1, v2, v3, v4, v5, v6, v7, v8, v9, v10, v11, v12, v13, v14, v15, v16, v17, v18, v19, v20], _ =>
    have h0 : DataW.trod enc Try.prog W 0 (fun _ => true) true m 3 ((([v0, v1, v2, v3, v4, v5, v6, v7, v8, v9, v10, v11, v12, v13, v14, v15, v16, v17, v18, v19, v20] : List Value).drop 0).take (Try.prog.cellsOf 3)) = some y0 := hf 0 _ rfl
    rw [c3] at h0
    simp only [List.drop_zero, List.drop_succ_cons, List.take_succ_cons, List.take_zero] at h0
    have h1 : DataW.trod enc Try.prog W 0 (fun _ => true) true m 41 ((([v0, v1, v2, v3, v4, v5, v6, v7, v8, v9, v10, v11, v12, v13, v14, v15, v16, v17, v18, v19, v20] : List Value).drop 1).take (Try.prog.cellsOf 41)) = some y1 := hf 1 _ rfl
    rw [c41] at h1
    simp only [List.drop_zero, List.drop_succ_cons, List.take_succ_cons, List.take_zero] at h1
    have h2 : DataW.trod enc Try.prog W 0 (fun _ => true) true m 42 ((([v0, v1, v2, v3, v4, v5, v6, v7, v8, v9, v10, v11, v12, v13, v14, v15, v16, v17, v18, v19, v20] : List Value).drop 2).take (Try.prog.cellsOf 42)) = some y2 := hf 2 _ rfl
    rw [c42] at h2
    simp only [List.drop_zero, List.drop_succ_cons, List.take_succ_cons, List.take_zero] at h2
    have h3 : DataW.trod enc Try.prog W 0 (fun _ => true) true m 43 ((([v0, v1, v2, v3, v4, v5, v6, v7, v8, v9, v10, v11, v12, v13, v14, v15, v16, v17, v18, v19, v20] : List Value).drop 18).take (Try.prog.cellsOf 43)) = some y3 := hf 3 _ rfl
    rw [c43] at h3
    simp only [List.drop_zero, List.drop_succ_cons, List.take_succ_cons, List.take_zero] at h3
    have h4 : DataW.trod enc Try.prog W 0 (fun _ => true) true m 26 ((([v0, v1, v2, v3, v4, v5, v6, v7, v8, v9, v10, v11, v12, v13, v14, v15, v16, v17, v18, v19, v20] : List Value).drop 19).take (Try.prog.cellsOf 26)) = some y4 := hf 4 _ rfl
    rw [c26] at h4
    simp only [List.drop_zero, List.drop_succ_cons, List.take_succ_cons, List.take_zero] at h4
    have h5 : DataW.trod enc Try.prog W 0 (fun _ => true) true m 3 ((([v0, v1, v2, v3, v4, v5, v6, v7, v8, v9, v10, v11, v12, v13, v14, v15, v16, v17, v18, v19, v20] : List Value).drop 20).take (Try.prog.cellsOf 3)) = some y5 := hf 5 _ rfl
    rw [c3] at h5
    simp only [List.drop_zero, List.drop_succ_cons, List.take_succ_cons, List.take_zero] at h5
    obtain ⟨kind, e0, _, w0⟩ := DataW.trod_int Try.underlying3 h0
    obtain ⟨num, e1, _, w1⟩ := DataW.trod_int Try.underlying41 h1
    obtain ⟨most, e5, _, w5⟩ := DataW.trod_int Try.underlying3 h5
    have o3 := one_slice Try.underlying43 h3
    have o4 := one_slice Try.underlying26 h4
    obtain ⟨ys, k, _, _, _, hy, hg⟩ := DataW.trod_array Try.underlying42 h2
    simp only [List.cons.injEq, and_true] at e0 e1 e5
    rw [c5] at hg
    have g0 := one_byte (hy := hy) (hg 0 (by omega))
    have g1 := one_byte (hy := hy) (hg 1 (by omega))
    have g2 := one_byte (hy := hy) (hg 2 (by omega))
    have g3 := one_byte (hy := hy) (hg 3 (by omega))
    have g4 := one_byte (hy := hy) (hg 4 (by omega))
    have g5 := one_byte (hy := hy) (hg 5 (by omega))
    have g6 := one_byte (hy := hy) (hg 6 (by omega))
    have g7 := one_byte (hy := hy) (hg 7 (by omega))
    have g8 := one_byte (hy := hy) (hg 8 (by omega))
    have g9 := one_byte (hy := hy) (hg 9 (by omega))
    have g10 := one_byte (hy := hy) (hg 10 (by omega))
    have g11 := one_byte (hy := hy) (hg 11 (by omega))
    have g12 := one_byte (hy := hy) (hg 12 (by omega))
    have g13 := one_byte (hy := hy) (hg 13 (by omega))
    have g14 := one_byte (hy := hy) (hg 14 (by omega))
    have g15 := one_byte (hy := hy) (hg 15 (by omega))
    simp only [List.drop_zero, List.drop_succ_cons, List.take_succ_cons, List.take_zero, Nat.mul_one, List.cons.injEq, and_true, forall_eq'] at g0 g1 g2 g3 g4 g5 g6 g7 g8 g9 g10 g11 g12 g13 g14 g15
    have hb1 : IntKind.i64.min = -9223372036854775808 := rfl
    have hb2 : IntKind.i64.max = 9223372036854775807 := rfl
    simp [Lit.wf, hb1, hb2] at w5
    refine ⟨kind, most, rfl, ?_, by rw [e0]; rfl, by rw [e5]; rfl, w5.1, w5.2⟩
    intro v hv
    simp only [List.mem_cons, List.not_mem_nil, or_false] at hv
    rcases hv with rfl | rfl | rfl | rfl | rfl | rfl | rfl | rfl | rfl | rfl | rfl | rfl | rfl | rfl | rfl | rfl | rfl | rfl | rfl | rfl | rfl
    · rw [e0]; rfl
    · rw [e1]; rfl
    · exact g0
    · exact g1
    · exact g2
    · exact g3
    · exact g4
    · exact g5
    · exact g6
    · exact g7
    · exact g8
    · exact g9
    · exact g10
    · exact g11
    · exact g12
    · exact g13
    · exact g14
    · exact g15
    · exact o3
    · exact o4
    · rw [e5]; rfl

theorem row_items {a : Option Addr} {len cap : Nat} {d : DataW H} {p : List MemPlace}
    (k : DataW.Trod enc Try.prog W 0 (fun _ => true) true 22 (.slice a len cap) d p) : ∃ C, IsItems W a len C := by
  obtain ⟨fuel, hf⟩ := k
  rcases open_slice Try.underlying22 hf with ⟨hcs, _⟩ | ⟨x, l, c, m, n, D, Pl, hcs, hb, hl, hm, hmm, hx, hi⟩
  · simp [Value.cells] at hcs
    obtain ⟨rfl, rfl, rfl⟩ := hcs
    exact ⟨fun _ => [], by unfold maxLen; omega, fun h => by omega⟩
  · simp [Value.cells] at hcs
    obtain ⟨rfl, rfl, rfl⟩ := hcs
    have hmc : m = cap := by simpa using hmm
    have each : ∀ i, i < len → ∃ cs : List Value, W.cells? 0 (x.add (i * 21)) 21 = some cs ∧ ∃ kind most, ItemC cs kind most := fun i him => by
      obtain ⟨cs, hc, ht⟩ := hi i (by omega)
      rw [c45] at hc
      exact ⟨cs, hc, item_of ht⟩
    obtain ⟨C, hC⟩ : ∃ C : Nat → List Value, ∀ i, i < len → W.cells? 0 (x.add (i * 21)) 21 = some (C i) ∧ ∃ kind most, ItemC (C i) kind most := by
      refine ⟨fun i => if h : i < len then Classical.choose (each i h) else [], fun i hi => ?_⟩
      simp only [hi, dif_pos]
      exact Classical.choose_spec (each i hi)
    refine ⟨C, by omega, fun h0 => ?_⟩
    obtain ⟨_, hcl, hat⟩ := World.cells?_some (hC 0 h0).1
    have h00 := hat 0 (by omega)
    obtain ⟨b, off, spot⟩ := x
    have hl0 : 0 < (C 0).length := by omega
    rw [List.getElem?_eq_getElem hl0] at h00
    have hspot : spot = none := by simpa [Addr.add] using World.cell?_spot h00
    subst hspot
    refine ⟨b, off, rfl, by simpa [Addr.add] using World.block_lt_of_cell? W _ h00, fun i hi' => ⟨fun j v hv => ?_, (hC i hi').2⟩⟩
    obtain ⟨_, hcl', hat'⟩ := World.cells?_some (hC i hi').1
    have hj : j < 21 := by
      have := (List.getElem?_eq_some_iff.1 hv).1
      omega
    have := hat' j hj
    rw [add_plain, add_plain] at this
    rw [this, hv]
end
end Go.Proofs.Ytgpjffchpppceaa
