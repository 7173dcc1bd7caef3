/-
  Rows of numbers of 32 bits.
-/
import Derived.Test.YtgabjmmmiogfjaaDoorFrI
namespace Go.Proofs.YtgabjmmmiogfjaaDoor
open Go.RowKit

/-- The numbers of a list, as values. -/
abbrev uv (l : List Int) : List Value := l.map (Value.int .u32)
/-- Numbers of 32 bits. -/
def U32s (l : List Int) : Prop := ∀ x ∈ l, 0 ≤ x ∧ x ≤ 4294967295
theorem U32s.nil : U32s [] := fun x h => by cases h
theorem U32s.take {l : List Int} (h : U32s l) (k : Nat) : U32s (l.take k) := fun x hx => h x (List.mem_of_mem_take hx)
theorem U32s.append {l m : List Int} (h : U32s l) (h2 : U32s m) : U32s (l ++ m) := fun x hx => by
  rcases List.mem_append.1 hx with hx | hx
  · exact h x hx
  · exact h2 x hx
theorem U32s.at {l : List Int} (h : U32s l) {i : Nat} (hi : i < l.length) : 0 ≤ l.getD i 0 ∧ l.getD i 0 ≤ 4294967295 := by
  rw [List.getD_eq_getElem?_getD, List.getElem?_eq_getElem hi]
  exact h _ (List.getElem_mem hi)
theorem elem67u : Tryd.prog.elem 67 = 98 := by kernel_rfl
/-- The slice v holds the bytes l, in a block below M. -/
def HoldsU (w : World) (M : Nat) (v : Value) (l : List Int) : Prop :=
  ∃ a cap, v = .slice a l.length cap ∧ l.length ≤ cap ∧ cap ≤ maxLen ∧ (a = none → cap = 0) ∧ (∀ x, a = some x → 0 < l.length → x.spot = none ∧ x.block < M ∧ x.block < w.heap.size) ∧
    (∀ x i, a = some x → i < l.length → w.cell? ⟨x.block, x.off + i, none⟩ = some (.int .u32 (l.getD i 0))) ∧ U32s l
theorem HoldsU.nil (w : World) (M : Nat) : HoldsU w M (.slice none 0 0) [] :=
  ⟨none, 0, rfl, Nat.le_refl _, by unfold maxLen; omega, fun _ => rfl, (fun x h => by cases h), (fun x i h => by cases h), U32s.nil⟩
theorem HoldsU.mono {w : World} {M M' : Nat} {v : Value} {l : List Int} (h : HoldsU w M v l) (hM : M ≤ M') : HoldsU w M' v l := by
  obtain ⟨a, cap, h1, h2, h3, h4, h5, h6, h7⟩ := h
  exact ⟨a, cap, h1, h2, h3, h4, fun x hx h0 => ⟨(h5 x hx h0).1, Nat.lt_of_lt_of_le (h5 x hx h0).2.1 hM, (h5 x hx h0).2.2⟩, h6, h7⟩
theorem HoldsU.frame {w w' : World} {M : Nat} {v : Value} {l : List Int} (h : HoldsU w M v l) (hs : w.heap.size ≤ w'.heap.size) (hf : ∀ k, k < M → k < w.heap.size → w'.heap[k]? = w.heap[k]?) : HoldsU w' M v l := by
  obtain ⟨a, cap, h1, h2, h3, h4, h5, h6, h7⟩ := h
  refine ⟨a, cap, h1, h2, h3, h4, fun x hx h0 => ⟨(h5 x hx h0).1, (h5 x hx h0).2.1, Nat.lt_of_lt_of_le (h5 x hx h0).2.2 hs⟩, fun x i hx hi => ?_, h7⟩
  exact (World.cell?_of_block (w := w) (a := ⟨x.block, x.off + i, none⟩) (hf _ (h5 x hx (by omega)).2.1 (h5 x hx (by omega)).2.2)).trans (h6 x i hx hi)
theorem HoldsU.keep {w w' : World} {M : Nat} {v : Value} {l : List Int} (h : HoldsU w M v l) (hb : Below w.heap.size w w') : HoldsU w' M v l := h.frame hb.size fun k _ hk => hb.block k hk
theorem HoldsU.turn {w w' : World} {M b : Nat} {o : Obj} {v : Value} {l : List Int} (h : HoldsU w M v l) (hb : Turn b o w w') (hM : M ≤ b) : HoldsU w' M v l := h.frame hb.size fun k hk hs => hb.other k hs (by omega)
theorem HoldsU.alloc {w : World} {M : Nat} {v : Value} {l : List Int} (h : HoldsU w M v l) (o : Obj) : HoldsU (w.alloc o) M v l := h.keep (more (Below.refl _ _) _)
theorem HoldsU.drew {w : World} {M : Nat} {v : Value} {l : List Int} (h : HoldsU w M v l) : HoldsU w.drew M v l := h
theorem HoldsU.len {w : World} {M : Nat} {v : Value} {l : List Int} (h : HoldsU w M v l) : l.length ≤ maxLen := by
  obtain ⟨a, cap, h1, h2, h3, _⟩ := h
  omega
theorem HoldsU.u32s {w : World} {M : Nat} {v : Value} {l : List Int} (h : HoldsU w M v l) : U32s l := by
  obtain ⟨a, cap, h1, h2, h3, h4, h5, h6, h7⟩ := h
  exact h7
/-- One cell. -/
theorem HoldsU.cellAt {w : World} {M : Nat} {a : Option Addr} {n cap : Nat} {l : List Int} (h : HoldsU w M (.slice a n cap) l) {i : Nat} (hi : i < l.length) :
    ∃ b off, a = some ⟨b, off, none⟩ ∧ n = l.length ∧ w.cell? ⟨b, off + i, none⟩ = some (.int .u32 (l.getD i 0)) := by
  obtain ⟨a', cap', h1, h2, h3, h4, h5, h6, h7⟩ := h
  simp only [Value.slice.injEq] at h1
  obtain ⟨rfl, rfl, rfl⟩ := h1
  cases a with
  | none => have := h4 rfl; omega
  | some x =>
    obtain ⟨hs, _⟩ := h5 x rfl (by omega)
    obtain ⟨b, off, spot⟩ := x
    simp only at hs
    subst hs
    exact ⟨b, off, rfl, rfl, h6 _ i rfl hi⟩
theorem HoldsU.news {w : World} {M : Nat} {ad : Addr} {n cap : Nat} {l : List Int} (h : HoldsU w M (.slice (some ad) n cap) l) : ∀ j u, (uv l)[j]? = some u → w.cell? (ad.add j) = some u := by
  obtain ⟨a', cap', h1, h2, h3, h4, h5, h6, h7⟩ := h
  simp only [Value.slice.injEq] at h1
  obtain ⟨rfl, rfl, rfl⟩ := h1
  intro j u hu
  rw [List.getElem?_map] at hu
  by_cases hj : j < l.length
  · rw [List.getElem?_eq_getElem hj] at hu
    simp at hu
    have h := h6 ad j rfl hj
    obtain ⟨hs, _⟩ := h5 ad rfl (by omega)
    have e : ad.add j = ⟨ad.block, ad.off + j, none⟩ := by
      obtain ⟨b, off, spot⟩ := ad
      simp only at hs
      subst hs
      unfold Addr.add
      split <;> simp_all
    rw [e, h, ← hu, List.getD_eq_getElem?_getD, List.getElem?_eq_getElem hj]
    rfl
  · rw [List.getElem?_eq_none (by omega)] at hu
    simp at hu
theorem HoldsU.source {w : World} {M : Nat} {a : Option Addr} {n cap : Nat} {l : List Int} (h : HoldsU w M (.slice a n cap) l) (h0 : 0 < (uv l).length) : ∃ ad, a = some ad ∧ ∀ j u, (uv l)[j]? = some u → w.cell? (ad.add j) = some u := by
  cases a with
  | none =>
    obtain ⟨a', cap', h1, h2, h3, h4, h5, h6, h7⟩ := h
    simp only [Value.slice.injEq] at h1
    have := h4 h1.1.symm
    simp at h0
    omega
  | some ad => exact ⟨ad, rfl, h.news⟩
theorem HoldsU.slice {w : World} {M : Nat} {v : Value} {l : List Int} (h : HoldsU w M v l) : ∃ a n cap, v = .slice a n cap ∧ n = l.length := by
  obtain ⟨a, cap, h1, _⟩ := h
  exact ⟨a, _, cap, h1, rfl⟩
/-- A row of the call's own, read as bytes. -/
theorem HoldsU.ofRow {w : World} {base : Nat} {v : Value} {l : List Int} (h7 : U32s l) (h : w.ownsRow base 98 1 v l.length (uv l)) : HoldsU w w.heap.size v l := by
  rcases h.2 with ⟨rfl, hn⟩ | ⟨g, cap, cur, rfl, hb, hg, h1, h2, h3, h4⟩
  · have hl := List.length_eq_zero_iff.1 hn
    subst hl
    exact HoldsU.nil _ _
  · have hlt := (Array.getElem?_eq_some_iff.1 hg).1
    refine ⟨_, cap, rfl, h1, h2, (fun e => by cases e), (fun x hx _ => by cases hx; exact ⟨rfl, hlt, hlt⟩), (fun x i hx hi => ?_), h7⟩
    cases hx
    rw [cell_of_row w g (0 + i) cur 98 (0, 0) hg]
    have h5 : (uv l)[i]? = some (.int .u32 (l.getD i 0)) := by
      rw [List.getElem?_map, List.getD_eq_getElem?_getD, List.getElem?_eq_getElem hi]
      simp
    rw [← h4, List.getElem?_take, if_pos (by omega)] at h5
    simpa using h5

theorem size98u (w : World) : (sizeOf 98).run Tryd.prog w = .ok 1 w := by kernel_rfl
set_option maxRecDepth 100000 in
/-- v[:k]. -/
theorem HoldsU.front {w : World} {M : Nat} {v : Value} {l : List Int} (h : HoldsU w M v l) {k : Nat} (hk : k ≤ l.length) :
    ∃ v', (∀ w1, (Instr.sliceAt 67 v none (some (.int .i64 k)) none).run Tryd.prog w1 = .ok v' w1) ∧ HoldsU w M v' (l.take k) := by
  obtain ⟨a, cap, rfl, h2, h3, h4, h5, h6, h7⟩ := h
  refine ⟨sliced a 0 k cap 1, fun w1 => ?_, ?_⟩
  · rw [run_sliceAt_slice (h := Tryd.underlying67), run_slice_h (ht := Tryd.underlying67) (h0 := by omega) (h2 := by omega), elem67u, size98u]
    simp [Result.andThen]
  · have hz : sliced a 0 k cap 1 = .slice a (l.take k).length cap := by
      unfold sliced
      rw [List.length_take, Nat.min_eq_left hk]
      simp only [Nat.sub_zero, Nat.zero_mul]
      congr 1
      split
      · rfl
      · cases a <;> simp [Addr.add]
    rw [hz]
    refine ⟨a, cap, rfl, by rw [List.length_take]; omega, h3, h4, fun x hx h0 => h5 x hx (by rw [List.length_take] at h0; omega), fun x i hx hi => ?_, h7.take k⟩
    rw [List.length_take] at hi
    rw [take_getD (by omega)]
    exact h6 x i hx (by omega)
open Go.ChangeShapes Go.WideShapes Go.ChangeAt Go.Deep in
/-- A slice of bytes that came in. -/
theorem row_u32s {H : Type} {enc : TypeId × Value → H} {W : World} {a : Option Addr} {len cap : Nat} {d : DataW H} {p : List MemPlace}
    (k : DataW.Trod enc Tryd.prog W 0 (fun _ => true) true 67 (.slice a len cap) d p) : ∃ l, HoldsU W W.heap.size (.slice a len cap) l := by
  obtain ⟨fuel, hf⟩ := k
  rcases open_slice1 Tryd.underlying67 (by kernel_rfl) hf with ⟨hcs, _⟩ | ⟨x, l, c, m, n, V, D, Pl, hcs, hb, hl, hm, hmm, hx, hi⟩
  · simp [Value.cells] at hcs
    obtain ⟨rfl, rfl, rfl⟩ := hcs
    exact ⟨[], HoldsU.nil _ _⟩
  · simp [Value.cells] at hcs
    obtain ⟨rfl, rfl, rfl⟩ := hcs
    have hmc : m = cap := by simpa using hmm
    have each : ∀ i, i < len → ∃ z : Int, W.cell? (x.add i) = some (.int .u32 z) ∧ 0 ≤ z ∧ z ≤ 4294967295 := fun i him => by
      obtain ⟨hc, ht⟩ := hi i (by omega)
      obtain ⟨u, e0, _, wu⟩ := DataW.trod_int Tryd.underlying98 ht
      simp only [List.cons.injEq, and_true] at e0
      rw [e0] at hc
      have h1 : IntKind.u32.min = 0 := rfl
      have h2 : IntKind.u32.max = 4294967295 := rfl
      simp [Lit.wf, h1, h2] at wu
      exact ⟨u, hc, wu⟩
    obtain ⟨f, hf'⟩ : ∃ f : Nat → Int, ∀ i, i < len → W.cell? (x.add i) = some (.int .u32 (f i)) ∧ 0 ≤ f i ∧ f i ≤ 4294967295 := by
      refine ⟨fun i => if h : i < len then Classical.choose (each i h) else 0, fun i hi => ?_⟩
      simp only [hi, dif_pos]
      exact Classical.choose_spec (each i hi)
    have hsp : 0 < len → x.spot = none ∧ x.block < W.heap.size := fun h0 => by
      have h1 := (hf' 0 h0).1
      have h2 : x.add 0 = x := by simp [Addr.add]
      rw [h2] at h1
      exact ⟨World.cell?_spot h1, World.block_lt_of_cell? W _ h1⟩
    refine ⟨(List.range len).map f, some x, cap, by simp, by simpa using hl, hm, (fun e => by cases e), fun y hy h0 => ?_, fun y i hy hi' => ?_, fun z hz => ?_⟩
    · cases hy
      simp at h0
      exact ⟨(hsp h0).1, (hsp h0).2, (hsp h0).2⟩
    · cases hy
      simp at hi'
      have hs := (hsp (by omega)).1
      have e : x.add i = ⟨x.block, x.off + i, none⟩ := by
        obtain ⟨b, off, spot⟩ := x
        simp only at hs
        subst hs
        unfold Addr.add
        split <;> simp_all
      rw [← e, (hf' i hi').1, List.getD_eq_getElem?_getD, List.getElem?_map, List.getElem?_range hi']
      rfl
    · obtain ⟨i, hi', rfl⟩ := List.mem_map.1 hz
      exact (hf' i (by simpa using hi')).2
end Go.Proofs.YtgabjmmmiogfjaaDoor
