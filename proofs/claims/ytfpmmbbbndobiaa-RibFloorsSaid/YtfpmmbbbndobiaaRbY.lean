/-
  The steps that come in (layer 19), as the walks read them.
-/
import Derived.Test.YtfpmmbbbndobiaaRbX
import Derived.OpenShut
import Derived.ProofKit
import Derived.Deep.Slices
import Derived.Deep.Fields
import Derived.Deep.Strs
import Derived.Lib.SmallJoins
namespace Go.Proofs.Ytfpmmbbbndobiaa
open Go.ChangeShapes Go.WideShapes Go.ChangeAt Go.RowKit Go.Deep Go.Joins

theorem add_off (b off n : Nat) : (Addr.add { block := b, off := off, spot := none } n) = ⟨b, off + n, none⟩ := by
  unfold Addr.add
  split
  · rename_i h; subst h; rfl
  · rfl
theorem c32 : Try.prog.cellsOf 41 = 16 := by kernel_rfl
theorem c5 : Try.prog.cellsOf 5 = 1 := by kernel_rfl
section
variable {H : Type} {enc : TypeId × Value → H} {W : World}
theorem sum_of {n : Nat} {cs : List Value} {x : DataW H × List MemPlace} (h : DataW.trod enc Try.prog W 0 (fun _ => true) true n 41 cs = some x) : ∃ p, cs = bv p ∧ p.length = 16 ∧ Bytes p := by
  obtain ⟨ys, k, _, _, hl, hy, hg⟩ := DataW.trod_array Try.underlying41 h
  rw [c32] at hl
  rw [c5] at hg
  have each : ∀ j, j < 16 → ∃ z : Int, cs[j]? = some (.int .u8 z) ∧ 0 ≤ z ∧ z ≤ 255 := fun j hj => by
    have h1 := hg j (by omega)
    rw [List.getElem?_eq_getElem (show j < ys.length by omega), Nat.mul_one] at h1
    obtain ⟨z, e0, _, wz⟩ := DataW.trod_int Try.underlying5 h1
    have h2 : IntKind.u8.min = 0 := rfl
    have h3 : IntKind.u8.max = 255 := rfl
    simp [Lit.wf, h2, h3] at wz
    refine ⟨z, ?_, wz⟩
    have h4 : ((cs.drop j).take 1)[0]? = some (.int .u8 z) := by rw [e0]; rfl
    rw [List.getElem?_take, if_pos (by omega), List.getElem?_drop] at h4
    simpa using h4
  obtain ⟨f, hf⟩ : ∃ f : Nat → Int, ∀ j, j < 16 → cs[j]? = some (.int .u8 (f j)) ∧ 0 ≤ f j ∧ f j ≤ 255 := by
    refine ⟨fun j => if h : j < 16 then Classical.choose (each j h) else 0, fun j hj => ?_⟩
    simp only [hj, dif_pos]
    exact Classical.choose_spec (each j hj)
  refine ⟨(List.range 16).map f, ?_, by simp, fun y hy => ?_⟩
  · apply List.ext_getElem?
    intro j
    by_cases hj : j < 16
    · rw [(hf j hj).1, List.getElem?_map, List.getElem?_map, List.getElem?_range hj]; rfl
    · rw [List.getElem?_eq_none (by omega), List.getElem?_eq_none (by simp; omega)]
  · obtain ⟨j, hj, rfl⟩ := List.mem_map.1 hy
    exact (hf j (List.mem_range.1 hj)).2

theorem sums_of {n : Nat} {v : Value} {x : DataW H × List MemPlace} (h : DataW.trod enc Try.prog W 0 (fun _ => true) true n 42 [v] = some x) : ∃ k S, HoldsS W v k S := by
  rcases open_slice Try.underlying42 h with ⟨hcs, _⟩ | ⟨a, len, cap, m, n', D, Pl, hcs, hb, hl, hm, hmm, hx, hi⟩
  · simp at hcs
    subst hcs
    exact ⟨0, [], none, 0, rfl, rfl, by unfold maxLen; omega, (fun _ hx => by cases hx), fun h => by omega⟩
  · simp at hcs
    subst hcs
    have hmc : m = cap := by simpa using hmm
    rw [c32] at hi
    have each : ∀ i, i < len → ∃ p : List Int, W.cells? 0 (a.add (i * 16)) 16 = some (bv p) ∧ p.length = 16 ∧ Bytes p := fun i him => by
      obtain ⟨cs, hc, ht⟩ := hi i (by omega)
      obtain ⟨p, rfl, hp⟩ := sum_of ht
      exact ⟨p, hc, hp⟩
    have hs : 0 < len → a.spot = none := fun h0 => by
      obtain ⟨p, hc, hp, _⟩ := each 0 h0
      obtain ⟨_, _, hat⟩ := World.cells?_some hc
      have h1 := hat 0 (by omega)
      rw [List.getElem?_map, List.getElem?_eq_getElem (show 0 < p.length by omega)] at h1
      simpa [Addr.add] using World.cell?_spot h1
    have hcell : ∀ j, j < len * 16 → ∃ z : Int, W.cell? (a.add j) = some (.int .u8 z) ∧ 0 ≤ z ∧ z ≤ 255 := fun j hj => by
      obtain ⟨p, hc, hp, hB⟩ := each (j / 16) (by omega)
      obtain ⟨_, _, hat⟩ := World.cells?_some hc
      have h1 := hat (j % 16) (by omega)
      have h2 : (a.add (j / 16 * 16)).add (j % 16) = a.add j := by
        have h3 : j / 16 * 16 + j % 16 = j := by omega
        obtain ⟨b, off, sp⟩ := a
        have h4 : sp = none := hs (by omega)
        subst h4
        rw [add_off, add_off, add_off, Nat.add_assoc, h3]
      rw [h2, List.getElem?_map, List.getElem?_eq_getElem (show j % 16 < p.length by omega)] at h1
      exact ⟨_, h1, hB _ (List.getElem_mem _)⟩
    obtain ⟨f, hf⟩ : ∃ f : Nat → Int, ∀ j, j < len * 16 → W.cell? (a.add j) = some (.int .u8 (f j)) ∧ 0 ≤ f j ∧ f j ≤ 255 := by
      refine ⟨fun j => if h : j < len * 16 then Classical.choose (hcell j h) else 0, fun j hj => ?_⟩
      simp only [hj, dif_pos]
      exact Classical.choose_spec (hcell j hj)
    refine ⟨len, (List.range (len * 16)).map f, some a, cap, rfl, by simp, by omega, fun y hy => ?_, fun h0 => ?_⟩
    · obtain ⟨j, hj, rfl⟩ := List.mem_map.1 hy
      exact (hf j (List.mem_range.1 hj)).2
    · obtain ⟨b, off, spot⟩ := a
      have h00 := (hf 0 (by omega)).1
      have hspot : spot = none := by simpa [Addr.add] using World.cell?_spot h00
      subst hspot
      refine ⟨b, off, rfl, by simpa [Addr.add] using World.block_lt_of_cell? W _ h00, fun j hj => ?_⟩
      have := (hf j hj).1
      rw [add_off] at this
      rw [this, List.getD_eq_getElem?_getD, List.getElem?_map, List.getElem?_range hj]; rfl
end

def I64 (n : Int) : Prop := -9223372036854775808 ≤ n ∧ n ≤ 9223372036854775807
theorem i64_of {n : Int} (h : (Lit.int .i64 n).wf = true) : I64 n := by
  simpa [Lit.wf, IntKind.min, IntKind.max, IntKind.signed, IntKind.bits, I64] using h
/-- A step. -/
structure OpR where
  (kind now from_ : Int)
  x : KV
  fl : K3
  has : Bool
instance : Inhabited OpR := ⟨⟨0, 0, 0, kn0 0 k0, k0, false⟩⟩
def ocR (o : OpR) : List Value := .int .i64 o.kind :: .int .i64 o.now :: .int .i64 o.from_ :: (knc o.x ++ (kc o.fl ++ [.bool o.has]))
structure OpR.Ok (W : World) (o : OpR) : Prop where
  k : I64 o.kind
  n : I64 o.now
  f : I64 o.from_
  d : (Lit.int .i64 o.x.d).wf = true
  p : ∃ p, HoldsS W (.slice o.x.pa o.x.pn o.x.pc) o.x.pn p
structure IsOpsR (W : World) (a : Option Addr) (len : Nat) (ol : List OpR) : Prop where
  eq : ol.length = len
  max : len ≤ maxLen
  ok : ∀ o ∈ ol, o.Ok W
  cells : ∀ i (hi : i < ol.length), ∃ b off, a = some ⟨b, off, none⟩ ∧ b < W.heap.size ∧ W.rangeAt b (off + i * 28) (ocR ol[i])
theorem rangeAt_below {w w' : World} {b o : Nat} {l : List Value} (hb : Below w.heap.size w w') (h : b < w.heap.size) (hr : w.rangeAt b o l) : w'.rangeAt b o l := fun j v hv => (hb.cell (p := ⟨b, o + j, none⟩) h).trans (hr j v hv)
theorem cells46 : Try.prog.cellsOf 46 = 28 := by kernel_rfl
theorem cells44 : Try.prog.cellsOf 44 = 21 := by kernel_rfl
theorem cells40 : Try.prog.cellsOf 40 = 3 := by kernel_rfl
theorem cells38 : Try.prog.cellsOf 38 = 1 := by kernel_rfl
theorem cells3 : Try.prog.cellsOf 3 = 1 := by kernel_rfl
theorem cells2 : Try.prog.cellsOf 2 = 1 := by kernel_rfl
theorem cells4 : Try.prog.cellsOf 4 = 1 := by kernel_rfl
theorem cells42r : Try.prog.cellsOf 42 = 1 := by kernel_rfl
theorem trod_struct4 {H : Type} {enc : TypeId × Value → H} {P : Program} {w : World} {base : Nat} {spare : Nat → Bool} {held : Bool} {t : TypeId} {f0 f1 f2 f3 : Field} {fuel : Nat} {cs : List Value} {x : DataW H × List MemPlace} (ht : P.underlying t = some (.struct #[f0, f1, f2, f3])) (h : DataW.trod enc P w base spare held fuel t cs = some x) :
    ∃ y0 y1 y2 y3 n, cs.length = P.cellsOf t ∧ DataW.trod enc P w base spare held n f0.type ((cs.drop f0.offset).take (P.cellsOf f0.type)) = some y0 ∧
      DataW.trod enc P w base spare held n f1.type ((cs.drop f1.offset).take (P.cellsOf f1.type)) = some y1 ∧ DataW.trod enc P w base spare held n f2.type ((cs.drop f2.offset).take (P.cellsOf f2.type)) = some y2 ∧
      DataW.trod enc P w base spare held n f3.type ((cs.drop f3.offset).take (P.cellsOf f3.type)) = some y3 := by
  obtain ⟨xs, n, _, rfl, hl, hlen, hf⟩ := DataW.trod_struct ht h
  match xs, hlen with
  | [y0, y1, y2, y3], _ => exact ⟨y0, y1, y2, y3, n, hl, by simpa using hf 0 f0 rfl, by simpa using hf 1 f1 rfl, by simpa using hf 2 f2 rfl, by simpa using hf 3 f3 rfl⟩
theorem trod_struct6 {H : Type} {enc : TypeId × Value → H} {P : Program} {w : World} {base : Nat} {spare : Nat → Bool} {held : Bool} {t : TypeId} {f0 f1 f2 f3 f4 f5 : Field} {fuel : Nat} {cs : List Value} {x : DataW H × List MemPlace} (ht : P.underlying t = some (.struct #[f0, f1, f2, f3, f4, f5])) (h : DataW.trod enc P w base spare held fuel t cs = some x) :
    ∃ y0 y1 y2 y3 y4 y5 n, cs.length = P.cellsOf t ∧ DataW.trod enc P w base spare held n f0.type ((cs.drop f0.offset).take (P.cellsOf f0.type)) = some y0 ∧
      DataW.trod enc P w base spare held n f1.type ((cs.drop f1.offset).take (P.cellsOf f1.type)) = some y1 ∧ DataW.trod enc P w base spare held n f2.type ((cs.drop f2.offset).take (P.cellsOf f2.type)) = some y2 ∧
      DataW.trod enc P w base spare held n f3.type ((cs.drop f3.offset).take (P.cellsOf f3.type)) = some y3 ∧ DataW.trod enc P w base spare held n f4.type ((cs.drop f4.offset).take (P.cellsOf f4.type)) = some y4 ∧
      DataW.trod enc P w base spare held n f5.type ((cs.drop f5.offset).take (P.cellsOf f5.type)) = some y5 := by
  obtain ⟨xs, n, _, rfl, hl, hlen, hf⟩ := DataW.trod_struct ht h
  match xs, hlen with
  | [y0, y1, y2, y3, y4, y5], _ => exact ⟨y0, y1, y2, y3, y4, y5, n, hl, by simpa using hf 0 f0 rfl, by simpa using hf 1 f1 rfl, by simpa using hf 2 f2 rfl, by simpa using hf 3 f3 rfl, by simpa using hf 4 f4 rfl, by simpa using hf 5 f5 rfl⟩
theorem cut {α : Type} (cs : List α) (k m : Nat) : (cs.drop k).take m ++ cs.drop (k + m) = cs.drop k := by rw [← List.drop_drop, List.take_append_drop]
theorem take1 {cs : List Value} {k : Nat} {v : Value} (h : (cs.drop k).take 1 = [v]) : cs[k]? = some v := by
  have h4 := congrArg (fun l : List Value => l[0]?) h
  simpa [List.getElem?_take, List.getElem?_drop] using h4
theorem key_trod {H : Type} {enc : TypeId × Value → H} {W : World} {fuel : Nat} {base : Nat} {spare : Nat → Bool} {held : Bool} {cs : List Value} {x : DataW H × List MemPlace}
    (hf : DataW.trod enc Try.prog W base spare held fuel 40 cs = some x) : ∃ k : K3, cs = kc k := by
  obtain ⟨y0, y1, y2, n, _, hl, t0, t1, t2⟩ := trod_struct3 Try.underlying40 hf
  rw [cells40] at hl
  simp only [cells38, cells3] at t0 t1 t2
  obtain ⟨e, e0, _, _⟩ := DataW.trod_int Try.underlying38 t0
  obtain ⟨s, e1, _, _⟩ := DataW.trod_int Try.underlying38 t1
  obtain ⟨m, e2, _, wm⟩ := DataW.trod_int Try.underlying3 t2
  have e0' := take1 e0
  have e1' := take1 e1
  have e2' := take1 e2
  match cs, hl with
  | [c0, c1, c2], _ =>
    simp at e0' e1' e2'
    subst e0' e1' e2'
    exact ⟨⟨e, s, m⟩, rfl⟩
theorem known_trod {H : Type} {enc : TypeId × Value → H} {W : World} {fuel : Nat} {cs : List Value} {x : DataW H × List MemPlace}
    (hf : DataW.trod enc Try.prog W 0 (fun _ => true) true fuel 44 cs = some x) : ∃ x : KV, cs = knc x ∧ (Lit.int .i64 x.d).wf = true ∧ ∃ p, HoldsS W (.slice x.pa x.pn x.pc) x.pn p := by
  obtain ⟨y0, y1, y2, y3, n, hl, t0, t1, t2, t3⟩ := trod_struct4 Try.underlying44 hf
  rw [cells44] at hl
  simp only [cells3, cells40, c32, cells42r] at t0 t1 t2 t3
  obtain ⟨d, e0, _, wd⟩ := DataW.trod_int Try.underlying3 t0
  obtain ⟨k, e1⟩ := key_trod t1
  obtain ⟨p, e2, hp, _⟩ := sum_of t2
  obtain ⟨v, e3⟩ : ∃ v, (cs.drop 20).take 1 = [v] := by
    have h1 : ((cs.drop 20).take 1).length = 1 := by simp; omega
    match (cs.drop 20).take 1, h1 with
    | [v], _ => exact ⟨v, rfl⟩
  rw [show (cs.drop 20).take 1 = [v] from e3] at t3
  obtain ⟨np, S, hS⟩ := sums_of t3
  obtain ⟨a, c, rfl, hr⟩ := hS
  obtain ⟨x0, x1, x2, x3, x4, x5, x6, x7, x8, x9, x10, x11, x12, x13, x14, x15, rfl⟩ := list16 hp
  refine ⟨⟨d, k, fun i => [x0, x1, x2, x3, x4, x5, x6, x7, x8, x9, x10, x11, x12, x13, x14, x15].getD i 0, a, np, c⟩, ?_, wd, S, a, c, rfl, hr⟩
  have h0 := cut cs 0 1
  have h1 := cut cs 1 3
  have h2 := cut cs 4 16
  have h3 : (cs.drop 20).take 1 = cs.drop 20 := List.take_of_length_le (by simp; omega)
  rw [show (cs.drop 0).take 1 = [.int .i64 d] from e0] at h0
  rw [show (cs.drop 1).take 3 = kc k from e1] at h1
  rw [show (cs.drop 4).take 16 = _ from e2] at h2
  rw [e3] at h3
  rw [List.drop_zero] at h0
  rw [← h0, ← h1, ← h2, ← h3]
  rfl
theorem row_opsR {H : Type} {enc : TypeId × Value → H} {W : World} {a : Option Addr} {len cap : Nat} {d : DataW H} {p : List MemPlace}
    (k : DataW.Trod enc Try.prog W 0 (fun _ => true) true 24 (.slice a len cap) d p) : ∃ ol, IsOpsR W a len ol := by
  obtain ⟨fuel, hf⟩ := k
  rcases open_slice Try.underlying24 hf with ⟨hcs, _⟩ | ⟨x, l, c, m, n, D, Pl, hcs, hb, hl, hm, hmm, hx, hi⟩
  · simp [Value.cells] at hcs
    obtain ⟨rfl, rfl, rfl⟩ := hcs
    exact ⟨[], rfl, (by unfold maxLen; omega), (fun o ho => by cases ho), fun i hi => by cases hi⟩
  · simp [Value.cells] at hcs
    obtain ⟨rfl, rfl, rfl⟩ := hcs
    have hmc : m = cap := by simpa using hmm
    subst hmc
    have each : ∀ i, i < m → ∃ o : OpR, o.Ok W ∧ W.cells? 0 (x.add (i * 28)) 28 = some (ocR o) := fun i him => by
      obtain ⟨cs, hc, ht⟩ := hi i him
      rw [cells46] at hc
      obtain ⟨y0, y1, y2, y3, y4, y5, n2, hlen, t0, t1, t2, t3, t4, t5⟩ := trod_struct6 Try.underlying46 ht
      rw [cells46] at hlen
      simp only [cells3, cells2, cells44, cells40, cells4] at t0 t1 t2 t3 t4 t5
      obtain ⟨k0, e0, _, w0⟩ := DataW.trod_int Try.underlying3 t0
      obtain ⟨k1, e1, _, w1⟩ := DataW.trod_int Try.underlying2 t1
      obtain ⟨k2, e2, _, w2⟩ := DataW.trod_int Try.underlying3 t2
      obtain ⟨xk, e3, d3, p3, w3⟩ := known_trod t3
      obtain ⟨fl, e4⟩ := key_trod t4
      obtain ⟨u, e5, _⟩ := DataW.trod_bool Try.underlying4 t5
      refine ⟨⟨k0, k1, k2, xk, fl, u⟩, ⟨i64_of w0, i64_of w1, i64_of w2, d3, p3, w3⟩, ?_⟩
      rw [hc]
      congr 1
      have h0 := cut cs 0 1
      have h1 := cut cs 1 1
      have h2 := cut cs 2 1
      have h3 := cut cs 3 21
      have h4 := cut cs 24 3
      have h5 : (cs.drop 27).take 1 = cs.drop 27 := List.take_of_length_le (by simp; omega)
      rw [show (cs.drop 0).take 1 = [.int .i64 k0] from e0] at h0
      rw [show (cs.drop 1).take 1 = [.int .i64 k1] from e1] at h1
      rw [show (cs.drop 2).take 1 = [.int .i64 k2] from e2] at h2
      rw [show (cs.drop 3).take 21 = knc xk from e3] at h3
      rw [show (cs.drop 24).take 3 = kc fl from e4] at h4
      rw [show (cs.drop 27).take 1 = [.bool u] from e5] at h5
      rw [List.drop_zero] at h0
      rw [← h0, ← h1, ← h2, ← h3, ← h4, ← h5]
      rfl
    obtain ⟨f, hf'⟩ : ∃ f : Nat → OpR, ∀ i, i < m → (f i).Ok W ∧ W.cells? 0 (x.add (i * 28)) 28 = some (ocR (f i)) := by
      refine ⟨fun i => if h : i < m then Classical.choose (each i h) else default, fun i hi => ?_⟩
      simp only [hi, dif_pos]
      exact Classical.choose_spec (each i hi)
    refine ⟨(List.range len).map f, by simp, by omega, fun o ho => ?_, fun i hi => ?_⟩
    · obtain ⟨i, hi2, rfl⟩ := List.mem_map.1 ho
      have := List.mem_range.1 hi2
      exact (hf' i (by omega)).1
    · have hi' : i < len := by simpa using hi
      obtain ⟨b, off, spot⟩ := x
      obtain ⟨hok, hc⟩ := hf' i (by omega)
      obtain ⟨_, hcl, hat⟩ := World.cells?_some hc
      obtain ⟨hok0, hc0⟩ := hf' 0 (by omega)
      obtain ⟨_, hcl0, hat0⟩ := World.cells?_some hc0
      have h0 := hat0 0 (by omega)
      have hspot : spot = none := by simpa [Addr.add] using World.cell?_spot h0
      subst hspot
      have hlt : b < W.heap.size := by
        have := World.block_lt_of_cell? W _ h0
        simpa [Addr.add] using this
      refine ⟨b, off, rfl, hlt, fun j v hv => ?_⟩
      have hj : j < 28 := by
        have h1 := (List.getElem?_eq_some_iff.1 hv).1
        simpa [ocR, knc, elc] using h1
      have h9 := hat j hj
      simp only [List.getElem_map, List.getElem_range] at hv
      have e : (Addr.add { block := b, off := off, spot := none } (i * 28)).add j = ⟨b, off + (i * 28 + j), none⟩ := by rw [add_off, add_off, Nat.add_assoc]
      rw [e, ← Nat.add_assoc] at h9
      rw [h9]
      exact hv
end Go.Proofs.Ytfpmmbbbndobiaa
