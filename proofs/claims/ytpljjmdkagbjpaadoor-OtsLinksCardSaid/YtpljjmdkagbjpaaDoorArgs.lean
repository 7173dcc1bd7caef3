/-
  Arguments that came in: an array of bytes by value; a slice of numbers of 64 bits.
-/
import Derived.Test.YtpljjmdkagbjpaaDoorArr
import Derived.OpenShut
import Derived.SizedLaws
namespace Go.Proofs.YtpljjmdkagbjpaaDoor
open Go.ChangeShapes Go.WideShapes Go.ChangeAt Go.RowKit Go.Deep

theorem okWide_arr {P : Program} {w : World} {r : Reach} {base : Nat} {t e : TypeId} {n : Nat} {v : Value} (ht : P.underlying t = some (.array n e)) (h : Value.okWide P w r base t v) : ∃ cs, v = .agg cs ∧ cs.size = P.cellsOf t := by
  simp only [Value.okWide, ht] at h
  obtain ⟨cs, h1, h2, _⟩ := h
  exact ⟨cs, h1, h2⟩
set_option maxRecDepth 100000 in
/-- An array of bytes that came in by value. -/
theorem open_bytes {H : Type} {enc : TypeId × Value → H} {W : World} {r : Reach} {base b0 : Nat} {spare held : Bool} {t : TypeId} {n : Nat} {v : Value} {d : DataW H} {p : List MemPlace}
    (ht : Tryd.prog.underlying t = some (.array n 5)) (hC : Tryd.prog.cellsOf t = n) (hv : Value.okWide Tryd.prog W r b0 t v) (h : DataW.Trod enc Tryd.prog W base (fun _ => spare) held t v d p) :
    ∃ l : List Int, v = .agg (kv .u8 l).toArray ∧ l.length = n ∧ Bytes l := by
  have c5 : Tryd.prog.cellsOf 5 = 1 := by kernel_rfl
  obtain ⟨cs, rfl, hsz⟩ := okWide_arr ht hv
  obtain ⟨fuel, hf⟩ := h
  obtain ⟨xs, m, rfl, hx, hlen, hn, hel⟩ := DataW.trod_array ht hf
  have hcl : cs.size = n := hsz.trans hC
  have each : ∀ i, i < n → ∃ z : Int, cs.toList[i]? = some (.int .u8 z) ∧ 0 ≤ z ∧ z ≤ 255 := fun i hi => by
    have he := hel i hi
    rw [c5, Nat.mul_one] at he
    rw [List.getElem?_eq_getElem (by omega)] at he
    obtain ⟨k, e1, _, wk⟩ := DataW.trod_int Tryd.underlying5 he
    have h1 : IntKind.u8.min = 0 := rfl
    have h2 : IntKind.u8.max = 255 := rfl
    simp [Lit.wf, h1, h2] at wk
    refine ⟨k, ?_, wk⟩
    have h4 := congrArg (fun l : List Value => l[0]?) e1
    simp only [List.getElem?_take, List.getElem?_drop, Nat.lt_one_iff, if_true, Nat.add_zero] at h4
    simpa [Value.cells] using h4
  obtain ⟨f, hf'⟩ : ∃ f : Nat → Int, ∀ i, i < n → cs.toList[i]? = some (.int .u8 (f i)) ∧ 0 ≤ f i ∧ f i ≤ 255 := by
    refine ⟨fun i => if h : i < n then Classical.choose (each i h) else 0, fun i hi => ?_⟩
    simp only [hi, dif_pos]
    exact Classical.choose_spec (each i hi)
  refine ⟨(List.range n).map f, ?_, by simp, fun z hz => ?_⟩
  · congr 1
    apply Array.toList_inj.1
    apply List.ext_getElem?
    intro i
    by_cases hi : i < n
    · rw [(hf' i hi).1]
      simp [List.getElem?_range hi]
    · rw [List.getElem?_eq_none (by simp; omega), List.getElem?_eq_none (by simp; omega)]
  · obtain ⟨i, hi, rfl⟩ := List.mem_map.1 hz
    exact (hf' i (List.mem_range.1 hi)).2
/-- The slice's cells are the numbers ns, each of 64 bits. -/
def HoldsQ (w : World) (a : Option Addr) (ns : List Int) : Prop :=
  (∀ x ∈ ns, 0 ≤ x ∧ x < 18446744073709551616) ∧ ∀ i, i < ns.length → ∃ b off, a = some ⟨b, off, none⟩ ∧ b < w.heap.size ∧ w.cell? ⟨b, off + i, none⟩ = some (.int .u64 (ns.getD i 0))
theorem HoldsQ.keep {w w' : World} {a : Option Addr} {ns : List Int} (h : HoldsQ w a ns) (hb : Below w.heap.size w w') : HoldsQ w' a ns := by
  refine ⟨h.1, fun i hi => ?_⟩
  obtain ⟨b, off, e1, e2, e3⟩ := h.2 i hi
  exact ⟨b, off, e1, Nat.lt_of_lt_of_le e2 hb.size, (hb.cell (p := ⟨b, off + i, none⟩) e2).trans e3⟩
/-- A slice of numbers that came in. -/
theorem row_nums {H : Type} {enc : TypeId × Value → H} {W : World} {a : Option Addr} {len cap : Nat} {d : DataW H} {p : List MemPlace}
    (k : DataW.Trod enc Tryd.prog W 0 (fun _ => true) true 131 (.slice a len cap) d p) : ∃ ns, ns.length = len ∧ HoldsQ W a ns := by
  obtain ⟨fuel, hf⟩ := k
  rcases open_slice1 Tryd.underlying131 (by kernel_rfl) hf with ⟨hcs, _⟩ | ⟨x, l, c, m, n, V, D, Pl, hcs, hb, hl, hm, hmm, hx, hi⟩
  · simp [Value.cells] at hcs
    obtain ⟨rfl, rfl, rfl⟩ := hcs
    exact ⟨[], rfl, (fun x h => by cases h), fun i hi => by simp at hi⟩
  · simp [Value.cells] at hcs
    obtain ⟨rfl, rfl, rfl⟩ := hcs
    have hmc : m = cap := by simpa using hmm
    have each : ∀ i, i < len → ∃ z : Int, W.cell? (x.add i) = some (.int .u64 z) ∧ 0 ≤ z ∧ z < 18446744073709551616 := fun i him => by
      obtain ⟨hc, ht⟩ := hi i (by omega)
      obtain ⟨u, e0, _, wu⟩ := DataW.trod_int Tryd.underlying111 ht
      simp only [List.cons.injEq, and_true] at e0
      rw [e0] at hc
      have h1 : IntKind.u64.min = 0 := rfl
      have h2 : IntKind.u64.max = 18446744073709551615 := rfl
      simp [Lit.wf, h1, h2] at wu
      exact ⟨u, hc, by omega⟩
    obtain ⟨f, hf'⟩ : ∃ f : Nat → Int, ∀ i, i < len → W.cell? (x.add i) = some (.int .u64 (f i)) ∧ 0 ≤ f i ∧ f i < 18446744073709551616 := by
      refine ⟨fun i => if h : i < len then Classical.choose (each i h) else 0, fun i hi => ?_⟩
      simp only [hi, dif_pos]
      exact Classical.choose_spec (each i hi)
    refine ⟨(List.range len).map f, by simp, fun z hz => ?_, fun i hi' => ?_⟩
    · obtain ⟨i, hi, rfl⟩ := List.mem_map.1 hz
      exact (hf' i (List.mem_range.1 hi)).2
    · simp at hi'
      have h1 := (hf' i hi').1
      have hsp : x.spot = none ∧ x.block < W.heap.size := by
        have h1 := (hf' 0 (by omega)).1
        have h2 : x.add 0 = x := by simp [Addr.add]
        rw [h2] at h1
        exact ⟨World.cell?_spot h1, World.block_lt_of_cell? W _ h1⟩
      obtain ⟨b, off, spot⟩ := x
      simp only at hsp
      obtain ⟨rfl, hlt⟩ := hsp
      have e : (⟨b, off, none⟩ : Addr).add i = ⟨b, off + i, none⟩ := by unfold Addr.add; split <;> simp_all
      rw [e] at h1
      refine ⟨b, off, rfl, hlt, ?_⟩
      rw [h1, List.getD_eq_getElem?_getD, List.getElem?_map, List.getElem?_range hi']
      rfl
set_option maxRecDepth 100000 in
/-- How many there can be. -/
theorem nums_reach {H : Type} {enc : TypeId × Value → H} {W : World} {a : Option Addr} {len cap : Nat} {d : DataW H} {p : List MemPlace}
    (k : DataW.Trod enc Tryd.prog W 0 (fun _ => true) true 131 (.slice a len cap) d p) {ts : List TypeId} {ds : List (DataW H)} {j : Nat}
    (hs : (DataW.weightsEach Tryd.prog ts ds).all (· ≤ reachBytes) = true) (ht : ts[j]? = some 131) (hd : ds[j]? = some d) : 8 * len ≤ 140737488351232 := by
  have hb : Tryd.prog.bytesOf 111 = 8 := by kernel_rfl
  obtain ⟨fuel, hf⟩ := k
  rcases open_slice1 Tryd.underlying131 (by kernel_rfl) hf with ⟨hcs, _⟩ | ⟨x, l, c, m, n, V, D, Pl, hcs, hb, hl, hm, hmm, hx, hi⟩
  · simp [Value.cells] at hcs
    obtain ⟨rfl, rfl, rfl⟩ := hcs
    omega
  · simp [Value.cells] at hcs
    obtain ⟨rfl, rfl, rfl⟩ := hcs
    simp only [Prod.mk.injEq] at hx
    rw [hx.1] at hd
    have := sized_slice hs ht hd Tryd.underlying131
    rw [‹Tryd.prog.bytesOf 111 = 8›] at this
    simp only [List.length_map, List.length_range, reachBytes] at this
    omega
end Go.Proofs.YtpljjmdkagbjpaaDoor
