/-
  An array of fifteen numbers that came in by value.
-/
import Derived.Test.YtcppmkblllappaaDoorCfD
import Derived.OpenShut
namespace Go.Proofs.YtcppmkblllappaaDoor
open Go.ChangeShapes Go.WideShapes Go.ChangeAt Go.RowKit

theorem okWide_arr {P : Program} {w : World} {r : Reach} {base : Nat} {t e : TypeId} {n : Nat} {v : Value} (ht : P.underlying t = some (.array n e)) (h : Value.okWide P w r base t v) : ∃ cs, v = .agg cs ∧ cs.size = P.cellsOf t := by
  simp only [Value.okWide, ht] at h
  obtain ⟨cs, h1, h2, _⟩ := h
  exact ⟨cs, h1, h2⟩
set_option maxRecDepth 100000 in
theorem open_rules {H : Type} {enc : TypeId × Value → H} {W : World} {r : Reach} {base b0 : Nat} {spare held : Bool} {v : Value} {d : DataW H} {p : List MemPlace}
    (hv : Value.okWide Tryd.prog W r b0 40 v) (h : DataW.Trod enc Tryd.prog W base (fun _ => spare) held 40 v d p) :
    ∃ f : Nat → Int, v = .agg (rc f).toArray ∧ I64s f := by
  have c3 : Tryd.prog.cellsOf 3 = 1 := by kernel_rfl
  have hC : Tryd.prog.cellsOf 40 = 15 := by kernel_rfl
  obtain ⟨cs, rfl, hsz⟩ := okWide_arr Tryd.underlying40 hv
  obtain ⟨fuel, hf⟩ := h
  obtain ⟨xs, m, rfl, hx, hlen, hn, hel⟩ := DataW.trod_array Tryd.underlying40 hf
  have hcl : cs.size = 15 := hsz.trans hC
  have each : ∀ i, i < 15 → ∃ z : Int, cs.toList[i]? = some (.int .i64 z) ∧ -9223372036854775808 ≤ z ∧ z ≤ 9223372036854775807 := fun i hi => by
    have he := hel i hi
    rw [c3, Nat.mul_one] at he
    rw [List.getElem?_eq_getElem (by omega)] at he
    obtain ⟨k, e1, _, wk⟩ := DataW.trod_int Tryd.underlying3 he
    have h1 : IntKind.i64.min = -9223372036854775808 := rfl
    have h2 : IntKind.i64.max = 9223372036854775807 := rfl
    simp [Lit.wf, h1, h2] at wk
    refine ⟨k, ?_, wk⟩
    have h4 := congrArg (fun l : List Value => l[0]?) e1
    simp only [List.getElem?_take, List.getElem?_drop, Nat.lt_one_iff, if_true, Nat.add_zero] at h4
    simpa [Value.cells] using h4
  obtain ⟨f, hf'⟩ : ∃ f : Nat → Int, (∀ i, i < 15 → cs.toList[i]? = some (.int .i64 (f i)) ∧ -9223372036854775808 ≤ f i ∧ f i ≤ 9223372036854775807) ∧ ∀ i, ¬ i < 15 → f i = 0 := by
    refine ⟨fun i => if h : i < 15 then Classical.choose (each i h) else 0, fun i hi => ?_, fun i hi => by simp [hi]⟩
    simp only [hi, dif_pos]
    exact Classical.choose_spec (each i hi)
  refine ⟨f, ?_, fun i => ?_⟩
  · congr 1
    apply Array.toList_inj.1
    apply List.ext_getElem?
    intro i
    by_cases hi : i < 15
    · rw [(hf'.1 i hi).1]
      exact (rc_at f hi).symm
    · rw [List.getElem?_eq_none (by simp; omega), List.getElem?_eq_none (by simp [rc_len]; omega)]
  · by_cases hi : i < 15
    · exact (hf'.1 i hi).2
    · rw [hf'.2 i hi]; decide
end Go.Proofs.YtcppmkblllappaaDoor
