/-
  The rows that come in (hops, tables, ints, bools), as the walks read them.
-/
import Derived.Test.YtkeoebldadpoiaaFbE
import Derived.OpenShut
import Derived.ProofKit
import Derived.Deep.Slices
import Derived.Deep.Fields
import Derived.Deep.Strs
import Derived.Lib.SmallJoins
import Derived.SizedLaws
namespace Go.Proofs.Ytkeoebldadpoiaa
open Go.ChangeShapes Go.WideShapes Go.ChangeAt Go.RowKit Go.Deep Go.Joins

theorem cells53 : Try.prog.cellsOf 53 = 3 := by kernel_rfl
theorem cells3 : Try.prog.cellsOf 3 = 1 := by kernel_rfl
theorem cells4 : Try.prog.cellsOf 4 = 1 := by kernel_rfl
theorem cells22 : Try.prog.cellsOf 22 = 1 := by kernel_rfl
theorem cells61 : Try.prog.cellsOf 61 = 1 := by kernel_rfl
theorem take1 {cs : List Value} {k : Nat} {v : Value} (h : (cs.drop k).take 1 = [v]) : cs[k]? = some v := by
  have h4 := congrArg (fun l : List Value => l[0]?) h
  simpa [List.getElem?_take, List.getElem?_drop] using h4
theorem add_off (b off n : Nat) : (Addr.add { block := b, off := off, spot := none } n) = ⟨b, off + n, none⟩ := by
  unfold Addr.add
  split
  · rename_i h; subst h; rfl
  · rfl
/-- A slice whose every element reads as some x with cells f x. -/
theorem row_open {α : Type} [Inhabited α] {f : α → List Value} {n : Nat} {t e : TypeId} (hlen : ∀ x, (f x).length = n) (hn : 0 < n) (ht : Try.prog.underlying t = some (.slice e)) (hce : Try.prog.cellsOf e = n) {Q : α → Prop}
    {H : Type} {enc : TypeId × Value → H} {W : World} {a : Option Addr} {len cap : Nat} {d : DataW H} {p : List MemPlace}
    (each : ∀ (cs : List Value) (x : DataW H × List MemPlace) (fuel : Nat), cs.length = n → DataW.trod enc Try.prog W 0 (fun _ => true) true fuel e cs = some x → ∃ x, cs = f x ∧ Q x)
    (k : DataW.Trod enc Try.prog W 0 (fun _ => true) true t (.slice a len cap) d p) : ∃ l, HoldsF f n W W.heap.size (.slice a len cap) l ∧ ∀ x ∈ l, Q x := by
  obtain ⟨fuel, hf⟩ := k
  rcases open_slice ht hf with ⟨hcs, _⟩ | ⟨x, l, c, m, q, D, Pl, hcs, hb, hl, hm, hmm, hx, hi⟩
  · simp [Value.cells] at hcs
    obtain ⟨rfl, rfl, rfl⟩ := hcs
    exact ⟨[], HoldsF.nil _ _ _ _, fun x hx => by cases hx⟩
  · simp [Value.cells] at hcs
    obtain ⟨rfl, rfl, rfl⟩ := hcs
    have hmc : m = cap := by simpa using hmm
    subst hmc
    have each' : ∀ i, i < m → ∃ o : α, W.cells? 0 (x.add (i * n)) n = some (f o) ∧ Q o := fun i him => by
      obtain ⟨cs, hc, ht⟩ := hi i him
      rw [hce] at hc
      have hcl : cs.length = n := (World.cells?_some hc).2.1
      obtain ⟨o, rfl, hq⟩ := each cs _ _ hcl ht
      exact ⟨o, hc, hq⟩
    obtain ⟨g, hg⟩ := choose_lt each'
    refine ⟨(List.range len).map g, ⟨some x, m, by simp, by simpa using hl, hm, fun i hi => ?_⟩, fun o ho => ?_⟩
    · have hi' : i < len := by simpa using hi
      obtain ⟨b, off, spot⟩ := x
      obtain ⟨hc, _⟩ := hg i (by omega)
      obtain ⟨_, hcl, hat⟩ := World.cells?_some hc
      obtain ⟨hc0, _⟩ := hg 0 (by omega)
      obtain ⟨_, hcl0, hat0⟩ := World.cells?_some hc0
      have h0 := (hat0 0 hn).trans (List.getElem?_eq_getElem (by rw [hlen]; exact hn))
      have hspot : spot = none := by simpa [Addr.add] using World.cell?_spot h0
      subst hspot
      have hlt : b < W.heap.size := by
        have := World.block_lt_of_cell? W _ h0
        simpa [Addr.add] using this
      refine ⟨b, off, rfl, hlt, hlt, fun j v hv => ?_⟩
      simp only [List.getElem_map, List.getElem_range] at hv
      have hj : j < n := by rw [← hlen (g i)]; exact (List.getElem?_eq_some_iff.1 hv).1
      have h9 := hat j hj
      have e : (Addr.add { block := b, off := off, spot := none } (i * n)).add j = ⟨b, off + (i * n + j), none⟩ := by rw [add_add]; exact add_off _ _ _
      rw [e, ← Nat.add_assoc] at h9
      rw [h9]
      exact hv
    · obtain ⟨i, hi2, rfl⟩ := List.mem_map.1 ho
      have := List.mem_range.1 hi2
      exact (hg i (by omega)).2
theorem hop_each {H : Type} {enc : TypeId × Value → H} {W : World} {cs : List Value} {x : DataW H × List MemPlace} {fuel : Nat} (hl : cs.length = 3) (hf : DataW.trod enc Try.prog W 0 (fun _ => true) true fuel 53 cs = some x) : ∃ h : H3, cs = hc h ∧ True := by
  obtain ⟨y0, y1, y2, n, _, _, t0, t1, t2⟩ := trod_struct3 Try.underlying53 hf
  simp only [cells3] at t0 t1 t2
  obtain ⟨e, e0, _, _⟩ := DataW.trod_int Try.underlying3 t0
  obtain ⟨s, e1, _, _⟩ := DataW.trod_int Try.underlying3 t1
  obtain ⟨m, e2, _, _⟩ := DataW.trod_int Try.underlying3 t2
  have e0' := take1 e0
  have e1' := take1 e1
  have e2' := take1 e2
  match cs, hl with
  | [c0, c1, c2], _ =>
    simp at e0' e1' e2'
    subst e0' e1' e2'
    exact ⟨⟨e, s, m⟩, rfl, trivial⟩
theorem row_hops {H : Type} {enc : TypeId × Value → H} {W : World} {a : Option Addr} {len cap : Nat} {d : DataW H} {p : List MemPlace}
    (k : DataW.Trod enc Try.prog W 0 (fun _ => true) true 22 (.slice a len cap) d p) : ∃ l, HoldsF hc 3 W W.heap.size (.slice a len cap) l := by
  obtain ⟨l, h, _⟩ := row_open (f := hc) (Q := fun _ => True) (fun _ => rfl) (by decide : 0 < 3) Try.underlying22 cells53 (fun cs x fuel h1 h2 => hop_each h1 h2) k
  exact ⟨l, h⟩
theorem hops_reach {H : Type} {enc : TypeId × Value → H} {W : World} {a : Option Addr} {len cap : Nat} {d : DataW H} {p : List MemPlace}
    (k : DataW.Trod enc Try.prog W 0 (fun _ => true) true 22 (.slice a len cap) d p) {ts : List TypeId} {ds : List (DataW H)} {j : Nat}
    (hs : (DataW.weightsEach Try.prog ts ds).all (· ≤ reachBytes) = true) (ht : ts[j]? = some 22) (hd : ds[j]? = some d) : len * 24 ≤ 140737488351232 := by
  have hb5 : Try.prog.bytesOf 53 = 24 := by kernel_rfl
  obtain ⟨fuel, hf⟩ := k
  rcases open_slice Try.underlying22 hf with ⟨hcs, _⟩ | ⟨x, l, c, m, n, D, Pl, hcs, hb, hl, hm, hmm, hx, hi⟩
  · simp [Value.cells] at hcs
    obtain ⟨rfl, rfl, rfl⟩ := hcs
    omega
  · simp [Value.cells] at hcs
    obtain ⟨rfl, rfl, rfl⟩ := hcs
    simp only [Prod.mk.injEq] at hx
    rw [hx.1] at hd
    have := sized_slice hs ht hd Try.underlying22
    rw [hb5] at this
    simp only [List.length_map, List.length_range, reachBytes] at this
    omega
theorem row_ints {H : Type} {enc : TypeId × Value → H} {W : World} {a : Option Addr} {len cap : Nat} {d : DataW H} {p : List MemPlace}
    (k : DataW.Trod enc Try.prog W 0 (fun _ => true) true 39 (.slice a len cap) d p) : ∃ l, HoldsF ic 1 W W.heap.size (.slice a len cap) l := by
  obtain ⟨l, h, _⟩ := row_open (f := ic) (Q := fun _ => True) (fun _ => rfl) (by decide : 0 < 1) Try.underlying39 cells3 (fun cs x fuel h1 h2 => by
    obtain ⟨e, e0, _, _⟩ := DataW.trod_int Try.underlying3 h2
    exact ⟨e, e0, trivial⟩) k
  exact ⟨l, h⟩
theorem slice_each {H : Type} {enc : TypeId × Value → H} {W : World} {cs : List Value} {x : DataW H × List MemPlace} {fuel : Nat} {t e : TypeId} (ht : Try.prog.underlying t = some (.slice e)) (hf : DataW.trod enc Try.prog W 0 (fun _ => true) true fuel t cs = some x) :
    ∃ a n c d p, cs = [.slice a n c] ∧ DataW.Trod enc Try.prog W 0 (fun _ => true) true t (.slice a n c) d p := by
  rcases open_slice ht hf with ⟨hcs, hx⟩ | ⟨y, l, c, m, n, D, Pl, hcs, hb, hl, hm, hmm, hx, hi⟩
  · subst hcs
    exact ⟨none, 0, 0, x.1, x.2, rfl, fuel, by simpa [Value.cells] using hf⟩
  · subst hcs
    exact ⟨_, _, _, x.1, x.2, rfl, fuel, by simpa [Value.cells] using hf⟩
theorem row_tabs {H : Type} {enc : TypeId × Value → H} {W : World} {a : Option Addr} {len cap : Nat} {d : DataW H} {p : List MemPlace}
    (k : DataW.Trod enc Try.prog W 0 (fun _ => true) true 37 (.slice a len cap) d p) : ∃ T, TabsIs W W.heap.size (.slice a len cap) T := by
  obtain ⟨vs, h, hQ⟩ := row_open (f := vc) (Q := fun v => ∃ l, HoldsF hc 3 W W.heap.size v l) (fun _ => rfl) (by decide : 0 < 1) Try.underlying37 cells22 (fun cs x fuel h1 h2 => by
    obtain ⟨a, n, c, d, p, rfl, hk⟩ := slice_each Try.underlying22 h2
    obtain ⟨l, hl⟩ := row_hops hk
    exact ⟨_, rfl, l, hl⟩) k
  have each : ∀ i, i < vs.length → ∃ l, HoldsF hc 3 W W.heap.size (vs.getD i default) l := fun i hi => hQ _ (by rw [← gd hi]; exact List.getElem_mem hi)
  obtain ⟨g, hg⟩ := choose_lt each
  refine ⟨(List.range vs.length).map g, vs, by simp, h, fun i hi => ?_⟩
  have hi' : i < vs.length := by simpa using hi
  rw [show ((List.range vs.length).map g).getD i default = g i by rw [← gd hi]; simp]
  exact hg i hi'
end Go.Proofs.Ytkeoebldadpoiaa
