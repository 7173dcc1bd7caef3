/-
  Rows of items that came in, with all that stands in them.
-/
import Derived.Test.YtgpjffchpppceaaItems
import Derived.Test.YtgpjffchpppceaaEq
namespace Go.Proofs.Ytgpjffchpppceaa
open Go.ChangeShapes Go.WideShapes Go.ChangeAt Go.RowKit Go.Deep

section
variable {H : Type} {enc : TypeId × Value → H} {W : World}
theorem sum_of {n : Nat} {cs : List Value} {x : DataW H × List MemPlace} (h : DataW.trod enc Try.prog W 0 (fun _ => true) true n 42 cs = some x) : ∃ p, cs = bv p ∧ p.length = 16 ∧ Bytes p := by
  obtain ⟨ys, k, _, _, hl, hy, hg⟩ := DataW.trod_array Try.underlying42 h
  rw [c42] at hl
  rw [c5] at hg
  have each : ∀ j, j < 16 → ∃ z : Int, cs[j]? = some (.int .u8 z) ∧ 0 ≤ z ∧ z ≤ 255 := fun j hj => by
    have h1 := hg j (by omega)
    rw [List.getElem?_eq_getElem (show j < ys.length by omega), Nat.mul_one] at h1
    obtain ⟨z, e0, _, wz⟩ := DataW.trod_int Try.underlying5 h1
    have h2 : IntKind.u8.min = 0 := rfl
    have h3 : IntKind.u8.max = 255 := rfl
    simp [Lit.wf, h2, h3] at wz
    refine ⟨z, ?_, wz⟩
    have h4 : ((cs.drop j).take 1)[0]? = some (.int .u8 z) := by rw [e0]; rfl
    rw [List.getElem?_take, if_pos (by omega), List.getElem?_drop] at h4
    simpa using h4
  obtain ⟨f, hf⟩ : ∃ f : Nat → Int, ∀ j, j < 16 → cs[j]? = some (.int .u8 (f j)) ∧ 0 ≤ f j ∧ f j ≤ 255 := by
    refine ⟨fun j => if h : j < 16 then Classical.choose (each j h) else 0, fun j hj => ?_⟩
    simp only [hj, dif_pos]
    exact Classical.choose_spec (each j hj)
  refine ⟨(List.range 16).map f, ?_, by simp, fun y hy => ?_⟩
  · apply List.ext_getElem?
    intro j
    by_cases hj : j < 16
    · rw [(hf j hj).1, List.getElem?_map, List.getElem?_map, List.getElem?_range hj]; rfl
    · rw [List.getElem?_eq_none (by omega), List.getElem?_eq_none (by simp; omega)]
  · obtain ⟨j, hj, rfl⟩ := List.mem_map.1 hy
    exact (hf j (List.mem_range.1 hj)).2

theorem sums_of {n : Nat} {v : Value} {x : DataW H × List MemPlace} (h : DataW.trod enc Try.prog W 0 (fun _ => true) true n 43 [v] = some x) : ∃ k S, HoldsS W v k S := by
  rcases open_slice Try.underlying43 h with ⟨hcs, _⟩ | ⟨a, len, cap, m, n', D, Pl, hcs, hb, hl, hm, hmm, hx, hi⟩
  · simp at hcs
    subst hcs
    exact ⟨0, [], none, 0, rfl, rfl, by unfold maxLen; omega, Bytes.nil, fun h => by omega⟩
  · simp at hcs
    subst hcs
    have hmc : m = cap := by simpa using hmm
    rw [c42] at hi
    have each : ∀ i, i < len → ∃ p : List Int, W.cells? 0 (a.add (i * 16)) 16 = some (bv p) ∧ p.length = 16 ∧ Bytes p := fun i him => by
      obtain ⟨cs, hc, ht⟩ := hi i (by omega)
      obtain ⟨p, rfl, hp⟩ := sum_of ht
      exact ⟨p, hc, hp⟩
    have hs : 0 < len → a.spot = none := fun h0 => by
      obtain ⟨p, hc, hp, _⟩ := each 0 h0
      obtain ⟨_, _, hat⟩ := World.cells?_some hc
      have h1 := hat 0 (by omega)
      rw [List.getElem?_map, List.getElem?_eq_getElem (show 0 < p.length by omega)] at h1
      simpa [Addr.add] using World.cell?_spot h1
    have hcell : ∀ j, j < len * 16 → ∃ z : Int, W.cell? (a.add j) = some (.int .u8 z) ∧ 0 ≤ z ∧ z ≤ 255 := fun j hj => by
      obtain ⟨p, hc, hp, hB⟩ := each (j / 16) (by omega)
      obtain ⟨_, _, hat⟩ := World.cells?_some hc
      have h1 := hat (j % 16) (by omega)
      have h2 : (a.add (j / 16 * 16)).add (j % 16) = a.add j := by
        have h3 : j / 16 * 16 + j % 16 = j := by omega
        obtain ⟨b, off, sp⟩ := a
        have h4 : sp = none := hs (by omega)
        subst h4
        rw [add_plain, add_plain, add_plain, Nat.add_assoc, h3]
      rw [h2, List.getElem?_map, List.getElem?_eq_getElem (show j % 16 < p.length by omega)] at h1
      exact ⟨_, h1, hB _ (List.getElem_mem _)⟩
    obtain ⟨f, hf⟩ : ∃ f : Nat → Int, ∀ j, j < len * 16 → W.cell? (a.add j) = some (.int .u8 (f j)) ∧ 0 ≤ f j ∧ f j ≤ 255 := by
      refine ⟨fun j => if h : j < len * 16 then Classical.choose (hcell j h) else 0, fun j hj => ?_⟩
      simp only [hj, dif_pos]
      exact Classical.choose_spec (hcell j hj)
    refine ⟨len, (List.range (len * 16)).map f, some a, cap, rfl, by simp, by omega, fun y hy => ?_, fun h0 => ?_⟩
    · obtain ⟨j, hj, rfl⟩ := List.mem_map.1 hy
      exact (hf j (List.mem_range.1 hj)).2
    · obtain ⟨b, off, spot⟩ := a
      have h00 := (hf 0 (by omega)).1
      have hspot : spot = none := by simpa [Addr.add] using World.cell?_spot h00
      subst hspot
      refine ⟨b, off, rfl, by simpa [Addr.add] using World.block_lt_of_cell? W _ h00, fun j hj => ?_⟩
      have := (hf j hj).1
      rw [add_plain] at this
      rw [this, List.getD_eq_getElem?_getD, List.getElem?_map, List.getElem?_range hj]; rfl
theorem bytes_of {n : Nat} {v : Value} {x : DataW H × List MemPlace} (h : DataW.trod enc Try.prog W 0 (fun _ => true) true n 26 [v] = some x) : ∃ l, HoldsB W W.heap.size v l := by
  obtain ⟨d, pl⟩ := x
  have hsh : ∃ a n c, v = .slice a n c := by
    rcases DataW.trod_slice Try.underlying26 h with ⟨h1, _⟩ | ⟨a, len, cap, _, _, _, _, h1, _⟩
    · simp at h1; exact ⟨_, _, _, h1⟩
    · simp at h1; exact ⟨_, _, _, h1⟩
  obtain ⟨a, len, cap, rfl⟩ := hsh
  exact row_bytes (enc := enc) (d := d) (p := pl) ⟨n, h⟩

/-- What stands in an item. -/
structure ItemE (W : World) (C : List Value) (kind num : Int) (p : List Int) (v3 v4 : Value) (n3 : Nat) (S Bb : List Int) (most : Int) : Prop where
  eq : C = .int .i64 kind :: .int .u64 num :: (bv p ++ [v3, v4, .int .i64 most])
  len : p.length = 16
  bytes : Bytes p
  n0 : 0 ≤ num
  n1 : num < 18446744073709551616
  s : HoldsS W v3 n3 S
  b : HoldsB W W.heap.size v4 Bb
theorem item_full {n : Nat} {cs : List Value} {x : DataW H × List MemPlace} (h : DataW.trod enc Try.prog W 0 (fun _ => true) true n 45 cs = some x) : ∃ kind num p v3 v4 n3 S Bb most, ItemE W cs kind num p v3 v4 n3 S Bb most := by
  obtain ⟨xs, m, _, _, hl, hx, hf⟩ := DataW.trod_struct Try.underlying45 h
  rw [c45] at hl
  match xs, hx with
  | [y0, y1, y2, y3, y4, y5], _ =>
  match cs, hl with
  | [v0, v1, u0, u1, u2, u3, u4, u5, u6, u7, u8, u9, u10, u11, u12, u13, u14, u15, v18, v19, v20], _ =>
    have h0 : DataW.trod enc Try.prog W 0 (fun _ => true) true m 3 ((([v0, v1, u0, u1, u2, u3, u4, u5, u6, u7, u8, u9, u10, u11, u12, u13, u14, u15, v18, v19, v20] : List Value).drop 0).take (Try.prog.cellsOf 3)) = some y0 := hf 0 _ rfl
    rw [c3] at h0
    have h1 : DataW.trod enc Try.prog W 0 (fun _ => true) true m 41 ((([v0, v1, u0, u1, u2, u3, u4, u5, u6, u7, u8, u9, u10, u11, u12, u13, u14, u15, v18, v19, v20] : List Value).drop 1).take (Try.prog.cellsOf 41)) = some y1 := hf 1 _ rfl
    rw [c41] at h1
    have h2 : DataW.trod enc Try.prog W 0 (fun _ => true) true m 42 ((([v0, v1, u0, u1, u2, u3, u4, u5, u6, u7, u8, u9, u10, u11, u12, u13, u14, u15, v18, v19, v20] : List Value).drop 2).take (Try.prog.cellsOf 42)) = some y2 := hf 2 _ rfl
    rw [c42] at h2
    have h3 : DataW.trod enc Try.prog W 0 (fun _ => true) true m 43 ((([v0, v1, u0, u1, u2, u3, u4, u5, u6, u7, u8, u9, u10, u11, u12, u13, u14, u15, v18, v19, v20] : List Value).drop 18).take (Try.prog.cellsOf 43)) = some y3 := hf 3 _ rfl
    rw [c43] at h3
    have h4 : DataW.trod enc Try.prog W 0 (fun _ => true) true m 26 ((([v0, v1, u0, u1, u2, u3, u4, u5, u6, u7, u8, u9, u10, u11, u12, u13, u14, u15, v18, v19, v20] : List Value).drop 19).take (Try.prog.cellsOf 26)) = some y4 := hf 4 _ rfl
    rw [c26] at h4
    have h5 : DataW.trod enc Try.prog W 0 (fun _ => true) true m 3 ((([v0, v1, u0, u1, u2, u3, u4, u5, u6, u7, u8, u9, u10, u11, u12, u13, u14, u15, v18, v19, v20] : List Value).drop 20).take (Try.prog.cellsOf 3)) = some y5 := hf 5 _ rfl
    rw [c3] at h5
    simp only [List.drop_zero, List.drop_succ_cons, List.take_succ_cons, List.take_zero] at h0 h1 h2 h3 h4 h5
    obtain ⟨kind, e0, _, _⟩ := DataW.trod_int Try.underlying3 h0
    obtain ⟨num, e1, _, w1⟩ := DataW.trod_int Try.underlying41 h1
    obtain ⟨most, e5, _, _⟩ := DataW.trod_int Try.underlying3 h5
    obtain ⟨p, e2, hp, hb⟩ := sum_of h2
    obtain ⟨n3, S, hS⟩ := sums_of h3
    obtain ⟨Bb, hB⟩ := bytes_of h4
    simp only [List.cons.injEq, and_true] at e0 e1 e5
    have hb1 : IntKind.u64.min = 0 := rfl
    have hb2 : IntKind.u64.max = 18446744073709551615 := rfl
    simp [Lit.wf, hb1, hb2] at w1
    refine ⟨kind, num, p, v18, v19, n3, S, Bb, most, ?_, hp, hb, w1.1, by omega, hS, hB⟩
    rw [← e2, e0, e1, e5]
    rfl
def IsFull (W : World) (a : Option Addr) (len : Nat) (C : Nat → List Value) : Prop :=
  len ≤ maxLen ∧ (0 < len → ∃ b off, a = some ⟨b, off, none⟩ ∧ b < W.heap.size ∧ ∀ i, i < len → W.rangeAt b (off + i * 21) (C i) ∧ ∃ kind num p v3 v4 n3 S Bb most, ItemE W (C i) kind num p v3 v4 n3 S Bb most)
theorem row_full {a : Option Addr} {len cap : Nat} {d : DataW H} {p : List MemPlace}
    (k : DataW.Trod enc Try.prog W 0 (fun _ => true) true 22 (.slice a len cap) d p) :
    ∃ C : Nat → List Value, IsFull W a len C := by
  obtain ⟨fuel, hf⟩ := k
  rcases open_slice Try.underlying22 hf with ⟨hcs, _⟩ | ⟨x, l, c, m, n, D, Pl, hcs, hb, hl, hm, hmm, hx, hi⟩
  · simp [Value.cells] at hcs
    obtain ⟨rfl, rfl, rfl⟩ := hcs
    exact ⟨fun _ => [], by unfold maxLen; omega, fun h => by omega⟩
  · simp [Value.cells] at hcs
    obtain ⟨rfl, rfl, rfl⟩ := hcs
    have hmc : m = cap := by simpa using hmm
    have each : ∀ i, i < len → ∃ cs : List Value, W.cells? 0 (x.add (i * 21)) 21 = some cs ∧ ∃ kind num p v3 v4 n3 S Bb most, ItemE W cs kind num p v3 v4 n3 S Bb most := fun i him => by
      obtain ⟨cs, hc, ht⟩ := hi i (by omega)
      rw [c45] at hc
      exact ⟨cs, hc, item_full ht⟩
    obtain ⟨C, hC⟩ : ∃ C : Nat → List Value, ∀ i, i < len → W.cells? 0 (x.add (i * 21)) 21 = some (C i) ∧ ∃ kind num p v3 v4 n3 S Bb most, ItemE W (C i) kind num p v3 v4 n3 S Bb most := by
      refine ⟨fun i => if h : i < len then Classical.choose (each i h) else [], fun i hi => ?_⟩
      simp only [hi, dif_pos]
      exact Classical.choose_spec (each i hi)
    refine ⟨C, by omega, fun h0 => ?_⟩
    obtain ⟨_, hcl, hat⟩ := World.cells?_some (hC 0 h0).1
    have h00 := hat 0 (by omega)
    obtain ⟨b, off, spot⟩ := x
    have hl0 : 0 < (C 0).length := by omega
    rw [List.getElem?_eq_getElem hl0] at h00
    have hspot : spot = none := by simpa [Addr.add] using World.cell?_spot h00
    subst hspot
    refine ⟨b, off, rfl, by simpa [Addr.add] using World.block_lt_of_cell? W _ h00, fun i hi' => ⟨fun j v hv => ?_, (hC i hi').2⟩⟩
    obtain ⟨_, hcl', hat'⟩ := World.cells?_some (hC i hi').1
    have hj : j < 21 := by
      have := (List.getElem?_eq_some_iff.1 hv).1
      omega
    have := hat' j hj
    rw [add_plain, add_plain] at this
    rw [this, hv]
end
end Go.Proofs.Ytgpjffchpppceaa
