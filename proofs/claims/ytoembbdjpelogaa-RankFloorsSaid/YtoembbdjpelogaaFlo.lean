/-
  The floors as a finite function; the contract of Get.
-/
import Derived.Test.YtoembbdjpelogaaBestP
import Derived.Test.YtoembbdjpelogaaFlow
import Derived.Test.YtoembbdjpelogaaFlowV
import Derived.WalkSpells
import Derived.WalkLawsBesides
import Derived.Outline
import Derived.LoopTactic
import Derived.RegionTactic
import Derived.BigRegion
import Derived.Maps.OwnSet
import Derived.Maps.Views
namespace Go.Proofs.Ytoembbdjpelogaa
open Go.RowKit Go.Maps

theorem retb' {a b : Bool} (h : a = b) : Ending.returned (.bool a) = Ending.returned (.bool b) := by rw [h]
abbrev agg3 (x : K3) : Value := .agg #[.int .u32 x.1, .int .u32 x.2.1, .int .i64 x.2.2]
def encK (x : K3) : DataW Unit := .agg [.lit (.int .u32 x.1), .lit (.int .u32 x.2.1), .lit (.int .i64 x.2.2)]
theorem encK_inj {x y : K3} (h : encK x = encK y) : x = y := by
  unfold encK at h
  simp at h
  obtain ⟨a, b, c⟩ := x
  obtain ⟨d, e, f⟩ := y
  simp at h
  simp [h]
theorem agg3_inj {x y : K3} (h : agg3 x = agg3 y) : x = y := by
  simp at h
  obtain ⟨a, b, c⟩ := x
  obtain ⟨d, e, f⟩ := y
  simp at h
  simp [h]
open Classical in
/-- How a key in the map reads. -/
noncomputable def keyElem (v : Value) : Option (DataW Unit × List MemPlace) := if h : ∃ x : K3, v = agg3 x then some (encK h.choose, []) else none
theorem keyElem_mk (x : K3) : keyElem (agg3 x) = some (encK x, []) := by
  have h : ∃ y : K3, agg3 x = agg3 y := ⟨x, rfl⟩
  unfold keyElem
  rw [dif_pos h, ← agg3_inj h.choose_spec]
theorem keyElem_inv {v : Value} {x : K3} {ps : List MemPlace} (h : keyElem v = some (encK x, ps)) : v = agg3 x := by
  unfold keyElem at h
  split at h
  · rename_i hx
    simp only [Option.some.injEq, Prod.mk.injEq] at h
    rw [← encK_inj h.1]
    exact hx.choose_spec
  · cases h

theorem law3' : Keyed Try.prog 3 := int_keyed Try.underlying3
theorem zero26 (w : World) : (zeroValue 26).run Try.prog w = .ok (agg3 (0, 0, 0)) w := by kernel_rfl

abbrev dkey (d : Int) : Lit := .int .i64 d
/-- The map in block M holds the keys F of the destinations. -/
def MapIs (w : World) (M n : Nat) (F : Int → Option K3) : Prop :=
  ∃ D : DataW Unit, w.ownsMap Try.prog 3 keyElem M n D ∧ IsMap D ∧ ∀ d, (dkey d).wf = true → has D (dkey d) = (F d).isSome ∧ D.atKey (dkey d) (encK (0, 0, 0)) = encK ((F d).getD (0, 0, 0))
abbrev floObj (M : Nat) : Obj := .cells #[.map (some M)] 103
theorem dkey_of {d : Int} (h : (dkey d).wf = true) : keyOf Try.prog 3 (.int .i64 d) = some (dkey d) := keyOf_int_mk Try.underlying3 h

set_option maxRecDepth 100000 in
set_option maxHeartbeats 1600000 in
theorem get_any (B M n : Nat) (F : Int → Option K3) (d : Int) (w : World) (hB : Blk w B (floObj M)) (hM : MapIs w M n F) (hd : (dkey d).wf = true) :
    Calls Try.prog 31 #[.pointer (some ⟨B, 0, none⟩), .int .i64 d] w fun r w' => r = .returned (.tuple #[agg3 ((F d).getD (0, 0, 0)), .bool (F d).isSome]) ∧ Below w.heap.size w w' := by
  obtain ⟨D, hown, hD, hF⟩ := hM
  obtain ⟨f1, f2⟩ := hF d hd
  have HOWN := Lib.hid hown
  have F1 := Lib.hid f1
  have F2 := Lib.hid f2
  have HB := Lib.hid hB
  obtain ⟨c0, -⟩ := hB.one
  have lB := hB.lt
  clear hF hown f1 f2 hB
  go_enter Try.func31, Try.ntmps31
  go_wp2_with (at_lookup; refine wpList_lookup_own_ok _ rfl _ _ 70 rfl 3 26 law3' Try.underlying70 keyElem (zero26 _) (encK (0, 0, 0)) [] (keyElem_mk _) M n D rfl (by first | exact HOWN.out.alloc _ | exact HOWN.out) _ _ rfl (dkey_of hd) ?_; intro v ps hv; rw [F2.out] at hv; obtain rfl := keyElem_inv hv; rw [F1.out]; clear hv)
  refine bodyPost_ret (v := .tuple #[agg3 ((F d).getD (0, 0, 0)), .bool (F d).isSome]) (by simp [results, Try.results31, go_sem]) rfl ⟨rfl, more (more (Below.refl _ _) _) _⟩

theorem MapIs.block {w w' : World} {M n : Nat} {F : Int → Option K3} (h : MapIs w M n F) (hb : w'.heap[M]? = w.heap[M]?) : MapIs w' M n F := by
  obtain ⟨D, ⟨es, clock, he, hr⟩, h2⟩ := h
  exact ⟨D, ⟨es, clock, hb.trans he, hr⟩, h2⟩
theorem MapIs.lt {w : World} {M n : Nat} {F : Int → Option K3} (h : MapIs w M n F) : M < w.heap.size := by
  obtain ⟨D, ho, _⟩ := h
  exact ho.lt
theorem MapIs.keep {w w' : World} {M n : Nat} {F : Int → Option K3} (h : MapIs w M n F) (hb : Below w.heap.size w w') : MapIs w' M n F := h.block (hb.block M h.lt)

def mayF (F : Int → Option K3) (d : Int) (x : K3) : Bool := !(F d).isSome || decide (0 ≤ cmp3 x ((F d).getD (0, 0, 0)))

set_option maxRecDepth 100000 in
set_option maxHeartbeats 1600000 in
theorem may_any (B M n : Nat) (F : Int → Option K3) (d : Int) (x : K3) (w : World) (hB : Blk w B (floObj M)) (hM : MapIs w M n F) (hd : (dkey d).wf = true) :
    Calls Try.prog 33 #[.pointer (some ⟨B, 0, none⟩), .int .i64 d, agg3 x] w fun r w' => r = .returned (.bool (mayF F d x)) ∧ Below w.heap.size w w' := by
  have HB := Lib.hid hB
  have HM := Lib.hid hM
  clear hB hM
  go_enter Try.func33, Try.ntmps33
  go_wp2_with fail
  refine (get_any B M n F d _ (HB.out.old _) (HM.out.keep (more (Below.refl _ _) _)) hd).mono ?_
  rintro r w1 ⟨rfl, hb⟩
  obtain ⟨E1, S1, b1⟩ := after_one hb
  clear hb
  have HV : Hid (mayF F d x = (!(F d).isSome || decide (0 ≤ cmp3 x ((F d).getD (0, 0, 0))))) := rfl
  generalize (F d).getD (0, 0, 0) = y at HV ⊢
  generalize (F d).isSome = ok at HV ⊢
  obtain ⟨c0, c1, c2, -⟩ := b1.three
  have l1 := b1.lt
  cases ok
  · go_wp2_with fail
    go_ret
    exact ⟨retb' (by rw [HV.out]; rfl), more E1 _⟩
  · go_wp2_with fail
    refine (compare_any _ _ _ _ _ _ _).mono ?_
    rintro r w2 ⟨rfl, hb2⟩
    have E2 := thru (more E1 _) hb2
    clear hb2
    go_wp2_with fail
    go_ret
    exact ⟨retb' (by rw [HV.out]; rfl), E2⟩

def updF (F : Int → Option K3) (d : Int) (x : K3) : Int → Option K3 := fun e => if e = d then some x else F e
theorem MapIs.put {w' : World} {M n : Nat} {F : Int → Option K3} {D : DataW Unit} {d : Int} {x : K3} (hd : (dkey d).wf = true) (hD : IsMap D)
    (hF : ∀ d, (dkey d).wf = true → has D (dkey d) = (F d).isSome ∧ D.atKey (dkey d) (encK (0, 0, 0)) = encK ((F d).getD (0, 0, 0)))
    (ho : w'.ownsMap Try.prog 3 keyElem M n (D.put (dkey d) (encK x))) : MapIs w' M n (updF F d x) := by
  have hk := law3'.key (dkey_of hd)
  refine ⟨_, ho, hD.put _ _, fun e he => ?_⟩
  unfold updF
  by_cases hed : e = d
  · subst hed
    rw [has_put_same hD hk, atKey_put_same hD hk]
    simp
  · have hne : dkey e ≠ dkey d := by simpa using hed
    rw [has_put_other hne, atKey_put_other hne, if_neg hed]
    exact hF e he
end Go.Proofs.Ytoembbdjpelogaa
