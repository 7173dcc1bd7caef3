/-
  The steps that come in (layer 14), as the walks read them.
-/
import Derived.Test.YtgikedbnnlckjaaSlL
import Derived.OpenShut
import Derived.ProofKit
import Derived.Deep.Slices
import Derived.Deep.Fields
import Derived.Lib.SmallJoins
namespace Go.Proofs.Ytgikedbnnlckjaa
open Go.ChangeShapes Go.WideShapes Go.ChangeAt Go.RowKit Go.Deep Go.Joins

/-- A step: its kind, place, number, bytes. -/
structure OpV where
  kind : Int
  at_ : Int
  n : Int
  to : List Int
instance : Inhabited OpV := ⟨⟨0, 0, 0, []⟩⟩
def ocells (o : OpV) : List Value := .int .i64 o.kind :: .int .i64 o.at_ :: .int .i64 o.n :: kv .u8 o.to
def I64 (n : Int) : Prop := -9223372036854775808 ≤ n ∧ n ≤ 9223372036854775807
structure OpV.Ok (o : OpV) : Prop where
  k : I64 o.kind
  a : I64 o.at_
  n : I64 o.n
  l : o.to.length = 64
  b : Bytes o.to
theorem i64_of {n : Int} (h : (Lit.int .i64 n).wf = true) : I64 n := by
  simpa [Lit.wf, IntKind.min, IntKind.max, IntKind.signed, IntKind.bits, I64] using h
structure IsOps (W : World) (a : Option Addr) (len : Nat) (ol : List OpV) : Prop where
  eq : ol.length = len
  max : len ≤ maxLen
  ok : ∀ o ∈ ol, o.Ok
  cells : ∀ i (hi : i < ol.length), ∃ b off, a = some ⟨b, off, none⟩ ∧ b < W.heap.size ∧ W.rangeAt b (off + i * 67) (ocells ol[i])
theorem IsOps.keep {w w' : World} {a : Option Addr} {len : Nat} {ol : List OpV} (h : IsOps w a len ol) (hb : Below w.heap.size w w') : IsOps w' a len ol :=
  ⟨h.eq, h.max, h.ok, fun i hi => by
    obtain ⟨b, off, e1, e2, e3⟩ := h.cells i hi
    exact ⟨b, off, e1, Nat.lt_of_lt_of_le e2 hb.size, rangeAt_below hb e2 e3⟩⟩
theorem cells32 : Try.prog.cellsOf 32 = 67 := by kernel_rfl
theorem cells3 : Try.prog.cellsOf 3 = 1 := by kernel_rfl
theorem cells30c : Try.prog.cellsOf 30 = 64 := by kernel_rfl
theorem cells5 : Try.prog.cellsOf 5 = 1 := by kernel_rfl
set_option maxRecDepth 100000 in
/-- 64 bytes that came in, as cells. -/
theorem bytes64 {H : Type} {enc : TypeId × Value → H} {W : World} {fuel : Nat} {base : Nat} {spare : Nat → Bool} {held : Bool} {cs : List Value} {x : DataW H × List MemPlace}
    (hf : DataW.trod enc Try.prog W base spare held fuel 30 cs = some x) : ∃ l : List Int, cs = kv .u8 l ∧ l.length = 64 ∧ Bytes l := by
  obtain ⟨xs, m, rfl, hx, hlen, hn, hel⟩ := DataW.trod_array Try.underlying30 hf
  rw [cells30c] at hlen
  have each : ∀ i, i < 64 → ∃ z : Int, cs[i]? = some (.int .u8 z) ∧ 0 ≤ z ∧ z ≤ 255 := fun i hi => by
    have he := hel i hi
    rw [cells5, Nat.mul_one] at he
    rw [List.getElem?_eq_getElem (by omega)] at he
    obtain ⟨k, e1, _, wk⟩ := DataW.trod_int Try.underlying5 he
    have h1 : IntKind.u8.min = 0 := rfl
    have h2 : IntKind.u8.max = 255 := rfl
    simp [Lit.wf, h1, h2] at wk
    refine ⟨k, ?_, wk⟩
    have h4 := congrArg (fun l : List Value => l[0]?) e1
    simp only [List.getElem?_take, List.getElem?_drop, Nat.lt_one_iff, if_true, Nat.add_zero] at h4
    simpa [Value.cells] using h4
  obtain ⟨f, hf'⟩ : ∃ f : Nat → Int, ∀ i, i < 64 → cs[i]? = some (.int .u8 (f i)) ∧ 0 ≤ f i ∧ f i ≤ 255 := by
    refine ⟨fun i => if h : i < 64 then Classical.choose (each i h) else 0, fun i hi => ?_⟩
    simp only [hi, dif_pos]
    exact Classical.choose_spec (each i hi)
  refine ⟨(List.range 64).map f, ?_, by simp, fun z hz => ?_⟩
  · apply List.ext_getElem?
    intro i
    by_cases hi : i < 64
    · rw [(hf' i hi).1, List.getElem?_map, List.getElem?_map, List.getElem?_range hi]
      rfl
    · rw [List.getElem?_eq_none (by omega), List.getElem?_eq_none (by rw [List.length_map, List.length_map, List.length_range]; omega)]
  · obtain ⟨i, hi, rfl⟩ := List.mem_map.1 hz
    exact (hf' i (List.mem_range.1 hi)).2
theorem take1 {cs : List Value} {k : Nat} {v : Value} (h : (cs.drop k).take 1 = [v]) : cs[k]? = some v := by
  have h4 := congrArg (fun l : List Value => l[0]?) h
  simpa [List.getElem?_take, List.getElem?_drop] using h4
theorem add_off (b off n : Nat) : (Addr.add { block := b, off := off, spot := none } n) = ⟨b, off + n, none⟩ := by
  unfold Addr.add
  split
  · rename_i h; subst h; rfl
  · rfl
theorem row_ops {H : Type} {enc : TypeId × Value → H} {W : World} {a : Option Addr} {len cap : Nat} {d : DataW H} {p : List MemPlace}
    (k : DataW.Trod enc Try.prog W 0 (fun _ => true) true 22 (.slice a len cap) d p) : ∃ ol, IsOps W a len ol := by
  obtain ⟨fuel, hf⟩ := k
  rcases open_slice Try.underlying22 hf with ⟨hcs, _⟩ | ⟨x, l, c, m, n, D, Pl, hcs, hb, hl, hm, hmm, hx, hi⟩
  · simp [Value.cells] at hcs
    obtain ⟨rfl, rfl, rfl⟩ := hcs
    exact ⟨[], rfl, (by unfold maxLen; omega), (fun o ho => by cases ho), fun i hi => by cases hi⟩
  · simp [Value.cells] at hcs
    obtain ⟨rfl, rfl, rfl⟩ := hcs
    have hmc : m = cap := by simpa using hmm
    subst hmc
    have each : ∀ i, i < m → ∃ o : OpV, o.Ok ∧ W.cells? 0 (x.add (i * 67)) 67 = some (ocells o) := fun i him => by
      obtain ⟨cs, hc, ht⟩ := hi i him
      rw [cells32] at hc
      obtain ⟨y0, y1, y2, y3, n2, _, hlen, t0, t1, t2, t3⟩ := trod_struct4 Try.underlying32 ht
      rw [cells32] at hlen
      simp only [List.drop_zero, cells3] at t0 t1 t2
      obtain ⟨k0, e0, _, w0⟩ := DataW.trod_int Try.underlying3 t0
      obtain ⟨k1, e1, _, w1⟩ := DataW.trod_int Try.underlying3 t1
      obtain ⟨k2, e2, _, w2⟩ := DataW.trod_int Try.underlying3 t2
      rw [cells30c] at t3
      obtain ⟨z, e3, hz, hzb⟩ := bytes64 t3
      refine ⟨⟨k0, k1, k2, z⟩, ⟨i64_of w0, i64_of w1, i64_of w2, hz, hzb⟩, ?_⟩
      rw [hc]
      congr 1
      have e0' := take1 (cs := cs) (k := 0) (by simpa using e0)
      have e1' := take1 e1
      have e2' := take1 e2
      match cs, hlen with
      | c0 :: c1 :: c2 :: r, hlen =>
        simp at e0' e1' e2' hlen
        subst e0' e1' e2'
        have : r = kv .u8 z := by
          rw [← e3]
          simp only [List.drop_succ_cons, List.drop_zero]
          rw [List.take_of_length_le (by omega)]
        rw [this]
        rfl
    obtain ⟨f, hf'⟩ : ∃ f : Nat → OpV, ∀ i, i < m → (f i).Ok ∧ W.cells? 0 (x.add (i * 67)) 67 = some (ocells (f i)) := by
      refine ⟨fun i => if h : i < m then Classical.choose (each i h) else default, fun i hi => ?_⟩
      simp only [hi, dif_pos]
      exact Classical.choose_spec (each i hi)
    refine ⟨(List.range len).map f, by simp, by omega, fun o ho => ?_, fun i hi => ?_⟩
    · obtain ⟨i, hi2, rfl⟩ := List.mem_map.1 ho
      have := List.mem_range.1 hi2
      exact (hf' i (by omega)).1
    · have hi' : i < len := by simpa using hi
      obtain ⟨b, off, spot⟩ := x
      obtain ⟨hok, hc⟩ := hf' i (by omega)
      obtain ⟨_, hcl, hat⟩ := World.cells?_some hc
      obtain ⟨hok0, hc0⟩ := hf' 0 (by omega)
      obtain ⟨_, hcl0, hat0⟩ := World.cells?_some hc0
      have h0 := hat0 0 (by omega)
      have hspot : spot = none := by simpa [Addr.add] using World.cell?_spot h0
      subst hspot
      have hlt : b < W.heap.size := by
        have := World.block_lt_of_cell? W _ h0
        simpa [Addr.add] using this
      refine ⟨b, off, rfl, hlt, fun j v hv => ?_⟩
      have hj : j < 67 := by
        have h1 := (List.getElem?_eq_some_iff.1 hv).1
        have h2 : (ocells (f i)).length = 67 := by simp [ocells, hok.l]
        simp only [List.getElem_map, List.getElem_range] at h1
        omega
      have h9 := hat j hj
      simp only [List.getElem_map, List.getElem_range] at hv
      have e : (Addr.add { block := b, off := off, spot := none } (i * 67)).add j = ⟨b, off + (i * 67 + j), none⟩ := by rw [add_add]; exact add_off _ _ _
      rw [e, ← Nat.add_assoc] at h9
      rw [h9]
      exact hv
end Go.Proofs.Ytgikedbnnlckjaa
