/-
  Rows of pieces and of integers that came in.
-/
import Derived.Test.YtlgcpfeaecpocaaPjB
import Derived.Test.YtlgcpfeaecpocaaPcP
namespace Go.Proofs.Ytlgcpfeaecpocaa
open Go.ChangeShapes Go.WideShapes Go.ChangeAt Go.RowKit Go.Deep Go.Joins

theorem add_off (b off n : Nat) : (Addr.add { block := b, off := off, spot := none } n) = ⟨b, off + n, none⟩ := by
  unfold Addr.add
  split
  · rename_i h; subst h; rfl
  · rfl
theorem cells25 : Try.prog.cellsOf 25 = 4 := by kernel_rfl
theorem cells3' : Try.prog.cellsOf 3 = 1 := by kernel_rfl
theorem cells22' : Try.prog.cellsOf 22 = 1 := by kernel_rfl
theorem cells23' : Try.prog.cellsOf 23 = 1 := by kernel_rfl
theorem rangeAt_below {w w' : World} {b o B : Nat} {C : List Value} (h : Below B w w') (hb : b < B) (hc : w.rangeAt b o C) : w'.rangeAt b o C := fun j v hv => by
  rw [World.cell?_of_block (w := w) (a := ⟨b, o + j, none⟩) (h.block _ hb)]
  exact hc j v hv
structure PcV.Ok (x : PcV) : Prop where
  i : 0 ≤ x.id ∧ x.id ≤ 4294967295
  a : I64 x.at_
  m : I64 x.many
structure IsPcs (W : World) (a : Option Addr) (len : Nat) (ol : List PcV) : Prop where
  eq : ol.length = len
  max : len ≤ maxLen
  ok : ∀ o ∈ ol, o.Ok ∧ HoldsB W W.heap.size o.v o.l
  cells : ∀ i (hi : i < ol.length), ∃ b off, a = some ⟨b, off, none⟩ ∧ b < W.heap.size ∧ W.rangeAt b (off + i * 4) (pcc ol[i])
theorem takeC1 {cs : List Value} {k : Nat} {v : Value} (h : (cs.drop k).take 1 = [v]) : cs[k]? = some v := by
  have h4 := congrArg (fun l : List Value => l[0]?) h
  simpa [List.getElem?_take, List.getElem?_drop] using h4
theorem row_pieces {H : Type} {enc : TypeId × Value → H} {W : World} {a : Option Addr} {len cap : Nat} {d : DataW H} {p : List MemPlace}
    (k : DataW.Trod enc Try.prog W 0 (fun _ => true) true 44 (.slice a len cap) d p) : ∃ ol, IsPcs W a len ol := by
  obtain ⟨fuel, hf⟩ := k
  rcases open_slice Try.underlying44 hf with ⟨hcs, _⟩ | ⟨x, l, c, m, n, D, Pl, hcs, hb, hl, hm, hmm, hx, hi⟩
  · simp [Value.cells] at hcs
    obtain ⟨rfl, rfl, rfl⟩ := hcs
    exact ⟨[], rfl, (by unfold maxLen; omega), (fun o ho => by cases ho), fun i hi => by cases hi⟩
  · simp [Value.cells] at hcs
    obtain ⟨rfl, rfl, rfl⟩ := hcs
    have hmc : m = cap := by simpa using hmm
    subst hmc
    have each : ∀ i, i < m → ∃ o : PcV, (o.Ok ∧ HoldsB W W.heap.size o.v o.l) ∧ W.cells? 0 (x.add (i * 4)) 4 = some (pcc o) := fun i him => by
      obtain ⟨cs, hc, ht⟩ := hi i him
      rw [cells25] at hc
      obtain ⟨y0, y1, y2, y3, n2, _, hlen, t0, t1, t2, t3⟩ := trod_struct4 Try.underlying25 ht
      rw [cells25] at hlen
      simp only [List.drop_zero, cells3', cells22', cells23'] at t0 t1 t2 t3
      obtain ⟨k0, e0, _, w0⟩ := DataW.trod_int Try.underlying22 t0
      obtain ⟨k1, e1, _, w1⟩ := DataW.trod_int Try.underlying3 t1
      obtain ⟨k2, e2, _, w2⟩ := DataW.trod_int Try.underlying3 t2
      have e0' := takeC1 (cs := cs) (k := 0) (by simpa using e0)
      have e1' := takeC1 e1
      have e2' := takeC1 e2
      match cs, hlen with
      | [c0, c1, c2, c3], hlen =>
        have t3' : DataW.trod enc Try.prog W 0 (fun _ => true) true n2 23 [c3] = some y3 := by simpa using t3
        obtain ⟨pa, pl, pc, l, rfl, hh, -⟩ := row_bytes2 t3'
        simp at e0' e1' e2'
        subst e0' e1' e2'
        exact ⟨⟨k0, k1, k2, .slice pa pl pc, l⟩, ⟨⟨u32_of w0, i64_of w1, i64_of w2⟩, hh⟩, hc⟩
    obtain ⟨f, hf'⟩ : ∃ f : Nat → PcV, ∀ i, i < m → ((f i).Ok ∧ HoldsB W W.heap.size (f i).v (f i).l) ∧ W.cells? 0 (x.add (i * 4)) 4 = some (pcc (f i)) := by
      refine ⟨fun i => if h : i < m then Classical.choose (each i h) else noPc, fun i hi => ?_⟩
      simp only [hi, dif_pos]
      exact Classical.choose_spec (each i hi)
    refine ⟨(List.range len).map f, by simp, by omega, fun o ho => ?_, fun i hi => ?_⟩
    · obtain ⟨i, hi2, rfl⟩ := List.mem_map.1 ho
      have := List.mem_range.1 hi2
      exact (hf' i (by omega)).1
    · have hi' : i < len := by simpa using hi
      obtain ⟨b, off, spot⟩ := x
      obtain ⟨hok, hc⟩ := hf' i (by omega)
      obtain ⟨_, hcl, hat⟩ := World.cells?_some hc
      obtain ⟨hok0, hc0⟩ := hf' 0 (by omega)
      obtain ⟨_, hcl0, hat0⟩ := World.cells?_some hc0
      have h0 := hat0 0 (by omega)
      have hspot : spot = none := by simpa [Addr.add] using World.cell?_spot h0
      subst hspot
      have hlt : b < W.heap.size := by
        have := World.block_lt_of_cell? W _ h0
        simpa [Addr.add] using this
      refine ⟨b, off, rfl, hlt, fun j v hv => ?_⟩
      have hj : j < 4 := by
        have h1 := (List.getElem?_eq_some_iff.1 hv).1
        simp only [List.getElem_map, List.getElem_range] at h1
        simpa [pcc] using h1
      have h9 := hat j hj
      simp only [List.getElem_map, List.getElem_range] at hv
      have e : (Addr.add { block := b, off := off, spot := none } (i * 4)).add j = ⟨b, off + (i * 4 + j), none⟩ := by rw [add_add]; exact add_off _ _ _
      rw [e, ← Nat.add_assoc] at h9
      rw [h9]
      exact hv
structure IsInts (W : World) (a : Option Addr) (len : Nat) (zl : List Int) : Prop where
  eq : zl.length = len
  max : len ≤ maxLen
  ok : ∀ z ∈ zl, I64 z
  cells : ∀ i (hi : i < zl.length), ∃ b off, a = some ⟨b, off, none⟩ ∧ b < W.heap.size ∧ W.cell? ⟨b, off + i, none⟩ = some (.int .i64 zl[i])
theorem IsInts.at {W w' : World} {a : Option Addr} {len : Nat} {zl : List Int} (h : IsInts W a len zl) (hb : Below W.heap.size W w') {i : Nat} (hi : i < len) : ∃ b off z, a = some ⟨b, off, none⟩ ∧ w'.cell? ⟨b, off + i, none⟩ = some (.int .i64 z) ∧ I64 z := by
  obtain ⟨b, off, e1, e2, e3⟩ := h.cells i (by rw [h.eq]; exact hi)
  have hi' : i < zl.length := by rw [h.eq]; exact hi
  refine ⟨b, off, zl[i], e1, ?_, h.ok _ (List.getElem_mem hi')⟩
  rw [World.cell?_of_block (w := W) (a := ⟨b, off + i, none⟩) (hb.block _ e2)]
  exact e3
theorem row_ints {H : Type} {enc : TypeId × Value → H} {W : World} {a : Option Addr} {len cap : Nat} {d : DataW H} {p : List MemPlace}
    (k : DataW.Trod enc Try.prog W 0 (fun _ => true) true 59 (.slice a len cap) d p) : ∃ zl, IsInts W a len zl := by
  obtain ⟨fuel, hf⟩ := k
  rcases open_slice1 Try.underlying59 (by kernel_rfl) hf with ⟨hcs, _⟩ | ⟨x, l, c, m, n, V, D, Pl, hcs, hb, hl, hm, hmm, hx, hi⟩
  · simp [Value.cells] at hcs
    obtain ⟨rfl, rfl, rfl⟩ := hcs
    exact ⟨[], rfl, (by unfold maxLen; omega), (fun o ho => by cases ho), fun i hi => by cases hi⟩
  · simp [Value.cells] at hcs
    obtain ⟨rfl, rfl, rfl⟩ := hcs
    have hmc : m = cap := by simpa using hmm
    have each : ∀ i, i < len → ∃ z : Int, W.cell? (x.add i) = some (.int .i64 z) ∧ I64 z := fun i him => by
      obtain ⟨hc, ht⟩ := hi i (by omega)
      obtain ⟨u, e0, _, wu⟩ := DataW.trod_int Try.underlying3 ht
      simp only [List.cons.injEq, and_true] at e0
      rw [e0] at hc
      exact ⟨u, hc, i64_of wu⟩
    obtain ⟨f, hf'⟩ : ∃ f : Nat → Int, ∀ i, i < len → W.cell? (x.add i) = some (.int .i64 (f i)) ∧ I64 (f i) := by
      refine ⟨fun i => if h : i < len then Classical.choose (each i h) else 0, fun i hi => ?_⟩
      simp only [hi, dif_pos]
      exact Classical.choose_spec (each i hi)
    refine ⟨(List.range len).map f, by simp, by omega, fun o ho => ?_, fun i hi => ?_⟩
    · obtain ⟨i, hi2, rfl⟩ := List.mem_map.1 ho
      exact (hf' i (List.mem_range.1 hi2)).2
    · have hi' : i < len := by simpa using hi
      obtain ⟨b, off, spot⟩ := x
      have h0 := (hf' 0 (by omega)).1
      have hspot : spot = none := by simpa [Addr.add] using World.cell?_spot h0
      subst hspot
      have hlt : b < W.heap.size := by
        have := World.block_lt_of_cell? W _ h0
        simpa [Addr.add] using this
      refine ⟨b, off, rfl, hlt, ?_⟩
      have := (hf' i hi').1
      rw [add_off] at this
      rw [this]
      simp
end Go.Proofs.Ytlgcpfeaecpocaa
