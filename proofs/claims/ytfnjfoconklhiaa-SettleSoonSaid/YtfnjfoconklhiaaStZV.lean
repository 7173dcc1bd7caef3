/-
  The steps that come in (layer 20), as the walks read them.
-/
import Derived.Test.YtfnjfoconklhiaaStK
import Derived.OpenShut
import Derived.ProofKit
import Derived.Deep.Slices
import Derived.Deep.Fields
import Derived.Deep.Strs
import Derived.Lib.SmallJoins
namespace Go.Proofs.Ytfnjfoconklhiaa
open Go.ChangeShapes Go.WideShapes Go.ChangeAt Go.RowKit Go.Deep Go.Joins

/-- A step. -/
structure OpV where
  (kind now dest e s m : Int)
  (u : Bool)
instance : Inhabited OpV := ⟨⟨0, 0, 0, 0, 0, 0, false⟩⟩
def ocells (o : OpV) : List Value := [.int .i64 o.kind, .int .i64 o.now, .int .i64 o.dest, .int .u32 o.e, .int .u32 o.s, .int .i64 o.m, .bool o.u]
def I64 (n : Int) : Prop := -9223372036854775808 ≤ n ∧ n ≤ 9223372036854775807
theorem i64_of {n : Int} (h : (Lit.int .i64 n).wf = true) : I64 n := by
  simpa [Lit.wf, IntKind.min, IntKind.max, IntKind.signed, IntKind.bits, I64] using h
structure OpV.Ok (o : OpV) : Prop where
  k : I64 o.kind
  n : I64 o.now
  d : I64 o.dest
  m : I64 o.m
structure IsOps (W : World) (a : Option Addr) (len : Nat) (ol : List OpV) : Prop where
  eq : ol.length = len
  max : len ≤ maxLen
  ok : ∀ o ∈ ol, o.Ok
  cells : ∀ i (hi : i < ol.length), ∃ b off, a = some ⟨b, off, none⟩ ∧ b < W.heap.size ∧ W.rangeAt b (off + i * 7) (ocells ol[i])
theorem rangeAt_below {w w' : World} {b o : Nat} {l : List Value} (hb : Below w.heap.size w w') (h : b < w.heap.size) (hr : w.rangeAt b o l) : w'.rangeAt b o l := fun j v hv => (hb.cell (p := ⟨b, o + j, none⟩) h).trans (hr j v hv)
theorem cells42 : Try.prog.cellsOf 42 = 7 := by kernel_rfl
theorem cells35 : Try.prog.cellsOf 35 = 3 := by kernel_rfl
theorem cells33 : Try.prog.cellsOf 33 = 1 := by kernel_rfl
theorem cells3 : Try.prog.cellsOf 3 = 1 := by kernel_rfl
theorem cells2 : Try.prog.cellsOf 2 = 1 := by kernel_rfl
theorem cells4 : Try.prog.cellsOf 4 = 1 := by kernel_rfl
theorem trod_struct5 {H : Type} {enc : TypeId × Value → H} {P : Program} {w : World} {base : Nat} {spare : Nat → Bool} {held : Bool} {t : TypeId} {f0 f1 f2 f3 f4 : Field} {fuel : Nat} {cs : List Value} {x : DataW H × List MemPlace} (ht : P.underlying t = some (.struct #[f0, f1, f2, f3, f4])) (h : DataW.trod enc P w base spare held fuel t cs = some x) :
    ∃ y0 y1 y2 y3 y4 n, cs.length = P.cellsOf t ∧ DataW.trod enc P w base spare held n f0.type ((cs.drop f0.offset).take (P.cellsOf f0.type)) = some y0 ∧
      DataW.trod enc P w base spare held n f1.type ((cs.drop f1.offset).take (P.cellsOf f1.type)) = some y1 ∧ DataW.trod enc P w base spare held n f2.type ((cs.drop f2.offset).take (P.cellsOf f2.type)) = some y2 ∧
      DataW.trod enc P w base spare held n f3.type ((cs.drop f3.offset).take (P.cellsOf f3.type)) = some y3 ∧ DataW.trod enc P w base spare held n f4.type ((cs.drop f4.offset).take (P.cellsOf f4.type)) = some y4 := by
  obtain ⟨xs, n, _, rfl, hl, hlen, hf⟩ := DataW.trod_struct ht h
  match xs, hlen with
  | [y0, y1, y2, y3, y4], _ => exact ⟨y0, y1, y2, y3, y4, n, hl, by simpa using hf 0 f0 rfl, by simpa using hf 1 f1 rfl, by simpa using hf 2 f2 rfl, by simpa using hf 3 f3 rfl, by simpa using hf 4 f4 rfl⟩
theorem take1 {cs : List Value} {k : Nat} {v : Value} (h : (cs.drop k).take 1 = [v]) : cs[k]? = some v := by
  have h4 := congrArg (fun l : List Value => l[0]?) h
  simpa [List.getElem?_take, List.getElem?_drop] using h4
theorem add_off (b off n : Nat) : (Addr.add { block := b, off := off, spot := none } n) = ⟨b, off + n, none⟩ := by
  unfold Addr.add
  split
  · rename_i h; subst h; rfl
  · rfl
theorem key_trod {H : Type} {enc : TypeId × Value → H} {W : World} {fuel : Nat} {base : Nat} {spare : Nat → Bool} {held : Bool} {cs : List Value} {x : DataW H × List MemPlace}
    (hf : DataW.trod enc Try.prog W base spare held fuel 35 cs = some x) : ∃ e s m : Int, cs = [.int .u32 e, .int .u32 s, .int .i64 m] ∧ I64 m := by
  obtain ⟨y0, y1, y2, n, _, hl, t0, t1, t2⟩ := trod_struct3 Try.underlying35 hf
  rw [cells35] at hl
  simp only [cells33, cells3] at t0 t1 t2
  obtain ⟨e, e0, _, _⟩ := DataW.trod_int Try.underlying33 t0
  obtain ⟨s, e1, _, _⟩ := DataW.trod_int Try.underlying33 t1
  obtain ⟨m, e2, _, wm⟩ := DataW.trod_int Try.underlying3 t2
  have e0' := take1 e0
  have e1' := take1 e1
  have e2' := take1 e2
  match cs, hl with
  | [c0, c1, c2], _ =>
    simp at e0' e1' e2'
    subst e0' e1' e2'
    exact ⟨e, s, m, rfl, i64_of wm⟩
theorem row_ops {H : Type} {enc : TypeId × Value → H} {W : World} {a : Option Addr} {len cap : Nat} {d : DataW H} {p : List MemPlace}
    (k : DataW.Trod enc Try.prog W 0 (fun _ => true) true 24 (.slice a len cap) d p) : ∃ ol, IsOps W a len ol := by
  obtain ⟨fuel, hf⟩ := k
  rcases open_slice Try.underlying24 hf with ⟨hcs, _⟩ | ⟨x, l, c, m, n, D, Pl, hcs, hb, hl, hm, hmm, hx, hi⟩
  · simp [Value.cells] at hcs
    obtain ⟨rfl, rfl, rfl⟩ := hcs
    exact ⟨[], rfl, (by unfold maxLen; omega), (fun o ho => by cases ho), fun i hi => by cases hi⟩
  · simp [Value.cells] at hcs
    obtain ⟨rfl, rfl, rfl⟩ := hcs
    have hmc : m = cap := by simpa using hmm
    subst hmc
    have each : ∀ i, i < m → ∃ o : OpV, o.Ok ∧ W.cells? 0 (x.add (i * 7)) 7 = some (ocells o) := fun i him => by
      obtain ⟨cs, hc, ht⟩ := hi i him
      rw [cells42] at hc
      obtain ⟨y0, y1, y2, y3, y4, n2, hlen, t0, t1, t2, t3, t4⟩ := trod_struct5 Try.underlying42 ht
      rw [cells42] at hlen
      simp only [cells3, cells2, cells35, cells4] at t0 t1 t2 t3 t4
      obtain ⟨k0, e0, _, w0⟩ := DataW.trod_int Try.underlying3 t0
      obtain ⟨k1, e1, _, w1⟩ := DataW.trod_int Try.underlying2 t1
      obtain ⟨k2, e2, _, w2⟩ := DataW.trod_int Try.underlying3 t2
      obtain ⟨e, s, mm, e3, w3⟩ := key_trod t3
      obtain ⟨u, e4, _⟩ := DataW.trod_bool Try.underlying4 t4
      refine ⟨⟨k0, k1, k2, e, s, mm, u⟩, ⟨i64_of w0, i64_of w1, i64_of w2, w3⟩, ?_⟩
      rw [hc]
      congr 1
      have e0' := take1 e0
      have e1' := take1 e1
      have e2' := take1 e2
      have e4' := take1 e4
      match cs, hlen with
      | [c0, c1, c2, c3, c4, c5, c6], _ =>
        simp at e0' e1' e2' e3 e4'
        obtain ⟨e30, e31, e32⟩ := e3
        subst e0' e1' e2' e4' e30 e31 e32
        rfl
    obtain ⟨f, hf'⟩ : ∃ f : Nat → OpV, ∀ i, i < m → (f i).Ok ∧ W.cells? 0 (x.add (i * 7)) 7 = some (ocells (f i)) := by
      refine ⟨fun i => if h : i < m then Classical.choose (each i h) else default, fun i hi => ?_⟩
      simp only [hi, dif_pos]
      exact Classical.choose_spec (each i hi)
    refine ⟨(List.range len).map f, by simp, by omega, fun o ho => ?_, fun i hi => ?_⟩
    · obtain ⟨i, hi2, rfl⟩ := List.mem_map.1 ho
      have := List.mem_range.1 hi2
      exact (hf' i (by omega)).1
    · have hi' : i < len := by simpa using hi
      obtain ⟨b, off, spot⟩ := x
      obtain ⟨hok, hc⟩ := hf' i (by omega)
      obtain ⟨_, hcl, hat⟩ := World.cells?_some hc
      obtain ⟨hok0, hc0⟩ := hf' 0 (by omega)
      obtain ⟨_, hcl0, hat0⟩ := World.cells?_some hc0
      have h0 := hat0 0 (by omega)
      have hspot : spot = none := by simpa [Addr.add] using World.cell?_spot h0
      subst hspot
      have hlt : b < W.heap.size := by
        have := World.block_lt_of_cell? W _ h0
        simpa [Addr.add] using this
      refine ⟨b, off, rfl, hlt, fun j v hv => ?_⟩
      have hj : j < 7 := by
        have h1 := (List.getElem?_eq_some_iff.1 hv).1
        simpa [ocells] using h1
      have h9 := hat j hj
      simp only [List.getElem_map, List.getElem_range] at hv
      have e : (Addr.add { block := b, off := off, spot := none } (i * 7)).add j = ⟨b, off + (i * 7 + j), none⟩ := by rw [add_add]; exact add_off _ _ _
      rw [e, ← Nat.add_assoc] at h9
      rw [h9]
      exact hv
end Go.Proofs.Ytfnjfoconklhiaa
