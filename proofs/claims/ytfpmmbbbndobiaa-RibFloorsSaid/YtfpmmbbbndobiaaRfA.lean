/-
  The floors of package rank in the table's program: New, Get, Raise.
-/
import Derived.Test.YtfpmmbbbndobiaaRbE
import Derived.Maps.OwnSet
import Derived.Maps.Views
namespace Go.Proofs.Ytfpmmbbbndobiaa
open Go.RowKit Go.Maps

def k00 : K3 := ⟨0, 0, 0⟩
def encK (x : K3) : DataW Unit := .agg [.lit (.int .u32 x.e), .lit (.int .u32 x.s), .lit (.int .i64 x.m)]
theorem encK_inj {x y : K3} (h : encK x = encK y) : x = y := by
  unfold encK at h
  simp at h
  obtain ⟨a, b, c⟩ := x
  obtain ⟨d, e, f⟩ := y
  simp at h
  simp [h]
theorem keyV_inj {x y : K3} (h : keyV x = keyV y) : x = y := by
  simp at h
  obtain ⟨a, b, c⟩ := x
  obtain ⟨d, e, f⟩ := y
  simp at h
  simp [h]
open Classical in
/-- How a key in the map reads. -/
noncomputable def keyElem (v : Value) : Option (DataW Unit × List MemPlace) := if h : ∃ x : K3, v = keyV x then some (encK h.choose, []) else none
theorem keyElem_mk (x : K3) : keyElem (keyV x) = some (encK x, []) := by
  have h : ∃ y : K3, keyV x = keyV y := ⟨x, rfl⟩
  unfold keyElem
  rw [dif_pos h, ← keyV_inj h.choose_spec]
theorem keyElem_inv {v : Value} {x : K3} {ps : List MemPlace} (h : keyElem v = some (encK x, ps)) : v = keyV x := by
  unfold keyElem at h
  split at h
  · rename_i hx
    simp only [Option.some.injEq, Prod.mk.injEq] at h
    rw [← encK_inj h.1]
    exact hx.choose_spec
  · cases h

theorem law3' : Keyed Try.prog 3 := int_keyed Try.underlying3
theorem zero47 (w : World) : (zeroValue 47).run Try.prog w = .ok (keyV k00) w := by kernel_rfl

abbrev dkey (d : Int) : Lit := .int .i64 d
/-- The map in block M holds the keys F of the destinations. -/
def MapIs (w : World) (M n : Nat) (F : Int → Option K3) : Prop :=
  ∃ D : DataW Unit, w.ownsMap Try.prog 3 keyElem M n D ∧ IsMap D ∧ ∀ d, (dkey d).wf = true → has D (dkey d) = (F d).isSome ∧ D.atKey (dkey d) (encK k00) = encK ((F d).getD k00)
abbrev floObj (M : Nat) : Obj := .cells #[.map (some M)] 126
theorem dkey_of {d : Int} (h : (dkey d).wf = true) : keyOf Try.prog 3 (.int .i64 d) = some (dkey d) := keyOf_int_mk Try.underlying3 h

set_option maxRecDepth 100000 in
set_option maxHeartbeats 1600000 in
theorem get_any (B M n : Nat) (F : Int → Option K3) (d : Int) (w : World) (hB : Blk w B (floObj M)) (hM : MapIs w M n F) (hd : (dkey d).wf = true) :
    Calls Try.prog 32 #[.pointer (some ⟨B, 0, none⟩), .int .i64 d] w fun r w' => r = .returned (.tuple #[keyV ((F d).getD k00), .bool (F d).isSome]) ∧ Below w.heap.size w w' := by
  obtain ⟨D, hown, hD, hF⟩ := hM
  obtain ⟨f1, f2⟩ := hF d hd
  have HOWN := Lib.hid hown
  have F1 := Lib.hid f1
  have F2 := Lib.hid f2
  have HB := Lib.hid hB
  obtain ⟨c0, -⟩ := hB.one
  have lB := hB.lt
  clear hF hown f1 f2 hB
  go_enter Try.func32, Try.ntmps32
  go_wp2_with (at_lookup; refine wpList_lookup_own_ok _ rfl _ _ 124 rfl 3 47 law3' Try.underlying124 keyElem (zero47 _) (encK k00) [] (keyElem_mk _) M n D rfl (by first | exact HOWN.out.alloc _ | exact HOWN.out) _ _ rfl (dkey_of hd) ?_; intro v ps hv; rw [F2.out] at hv; obtain rfl := keyElem_inv hv; rw [F1.out]; clear hv)
  refine bodyPost_ret (v := .tuple #[keyV ((F d).getD k00), .bool (F d).isSome]) (by simp [results, Try.results32, go_sem]) rfl ⟨rfl, more (more (Below.refl _ _) _) _⟩

theorem MapIs.block {w w' : World} {M n : Nat} {F : Int → Option K3} (h : MapIs w M n F) (hb : w'.heap[M]? = w.heap[M]?) : MapIs w' M n F := by
  obtain ⟨D, ⟨es, clock, he, hr⟩, h2⟩ := h
  exact ⟨D, ⟨es, clock, hb.trans he, hr⟩, h2⟩
theorem MapIs.lt {w : World} {M n : Nat} {F : Int → Option K3} (h : MapIs w M n F) : M < w.heap.size := by
  obtain ⟨D, ho, _⟩ := h
  exact ho.lt
theorem MapIs.keep {w w' : World} {M n : Nat} {F : Int → Option K3} (h : MapIs w M n F) (hb : Below w.heap.size w w') : MapIs w' M n F := h.block (hb.block M h.lt)

def updF (F : Int → Option K3) (d : Int) (x : K3) : Int → Option K3 := fun e => if e = d then some x else F e
theorem MapIs.put {w' : World} {M n : Nat} {F : Int → Option K3} {D : DataW Unit} {d : Int} {x : K3} (hd : (dkey d).wf = true) (hD : IsMap D)
    (hF : ∀ d, (dkey d).wf = true → has D (dkey d) = (F d).isSome ∧ D.atKey (dkey d) (encK k00) = encK ((F d).getD k00))
    (ho : w'.ownsMap Try.prog 3 keyElem M n (D.put (dkey d) (encK x))) : MapIs w' M n (updF F d x) := by
  have hk := law3'.key (dkey_of hd)
  refine ⟨_, ho, hD.put _ _, fun e he => ?_⟩
  unfold updF
  by_cases hed : e = d
  · subst hed
    rw [has_put_same hD hk, atKey_put_same hD hk]
    simp
  · have hne : dkey e ≠ dkey d := by simpa using hed
    rw [has_put_other hne, atKey_put_other hne, if_neg hed]
    exact hF e he
def raiseU (F : Int → Option K3) (d : Int) (x : K3) : Bool := decide (0 ≤ d ∧ d < 8) && krB x && !((F d).isSome && decide (cmpK x ((F d).getD k00) ≤ 0))
def raiseE (d : Int) (x : K3) : Int := if decide (0 ≤ d ∧ d < 8) && krB x then 0 else 1
def raiseF (F : Int → Option K3) (d : Int) (x : K3) : Int → Option K3 := if raiseU F d x = true then updF F d x else F

def RaisePost (M n : Nat) (F : Int → Option K3) (d : Int) (x : K3) (w : World) (r : Ending) (w' : World) : Prop :=
  r = .returned (.tuple #[.bool (raiseU F d x), .int .i64 (raiseE d x)]) ∧ MapIs w' M (n + 1) (raiseF F d x) ∧ w.grownBy w' (some M)
theorem below_grow {w w' : World} {row : Option Nat} (h : Below w.heap.size w w') : w.grownBy w' row := ⟨h.os, h.tape, h.output, h.size, fun k hk _ => h.block k hk⟩
theorem MapIs.mono {w : World} {M n n' : Nat} {F : Int → Option K3} (h : MapIs w M n F) (hn : n ≤ n') : MapIs w M n' F := by
  obtain ⟨D, ho, h2⟩ := h
  exact ⟨D, ho.mono hn, h2⟩
theorem RaisePost.no {M n : Nat} {F : Int → Option K3} {d : Int} {x : K3} {w w' : World} {e : Int} (h1 : raiseU F d x = false) (h2 : raiseE d x = e) (hM : MapIs w M n F) (hb : Below w.heap.size w w') :
    RaisePost M n F d x w (.returned (.tuple #[.bool false, .int .i64 e])) w' := by
  refine ⟨by rw [h1, h2], ?_, below_grow hb⟩
  unfold raiseF
  rw [h1]
  exact (hM.keep hb).mono (by omega)

theorem omk {w w' : World} {M n : Nat} {D : DataW Unit} (h : w.ownsMap Try.prog 3 keyElem M n D) (hb : Below w.heap.size w w') : w'.ownsMap Try.prog 3 keyElem M n D := by
  have hlt := h.lt
  obtain ⟨es, clock, he, hr⟩ := h
  exact ⟨es, clock, (hb.block M hlt).trans he, hr⟩
set_option maxRecDepth 100000 in
theorem eqlmap (M : Nat) (w : World) : (binOp BinOp.eql 124 (.map (some M)) (.map none)).run Try.prog w = .ok (.bool false) w := by
  first | rfl | kernel_rfl | (simp [binOp, Try.underlying124])
theorem grow_two {w w1 w2 : World} {M : Nat} (h : Below w.heap.size w w1) (hg : w1.grownBy w2 (some M)) : w.grownBy w2 (some M) :=
  ⟨hg.os.trans h.os, hg.tape.trans h.tape, hg.output.trans h.output, Nat.le_trans h.size hg.size, fun k hk hne => (hg.block k (Nat.lt_of_lt_of_le hk h.size) hne).trans (h.block k hk)⟩

set_option maxRecDepth 100000 in
set_option maxHeartbeats 3200000 in
theorem raise_any (B M n : Nat) (F : Int → Option K3) (d : Int) (x : K3) (w : World) (hB : Blk w B (floObj M)) (hM : MapIs w M n F) (hd : (dkey d).wf = true) (hn : n < maxLen) :
    Calls Try.prog 33 #[.pointer (some ⟨B, 0, none⟩), .int .i64 d, keyV x] w (RaisePost M n F d x w) := by
  have HB := Lib.hid hB
  have HM := Lib.hid hM
  have HN := Lib.hid hn
  clear hB hM hn
  by_cases h0 : d < 0
  · have HP : Hid (∀ w', Below w.heap.size w w' → RaisePost M n F d x w (.returned (.tuple #[.bool false, .int .i64 1])) w') :=
      fun w' hb => RaisePost.no (by simp [raiseU, show ¬ 0 ≤ d by omega]) (by simp [raiseE, show ¬ 0 ≤ d by omega]) HM.out hb
    go_enter Try.func33, Try.ntmps33
    go_wp2_with fail
    go_ret2
    exact HP.out _ (more (Below.refl _ _) _)
  · by_cases h8 : 8 ≤ d
    · have HP : Hid (∀ w', Below w.heap.size w w' → RaisePost M n F d x w (.returned (.tuple #[.bool false, .int .i64 1])) w') :=
        fun w' hb => RaisePost.no (by simp [raiseU, show ¬ d < 8 by omega]) (by simp [raiseE, show ¬ d < 8 by omega]) HM.out hb
      go_enter Try.func33, Try.ntmps33
      go_wp2_with fail
      go_ret2
      exact HP.out _ (more (Below.refl _ _) _)
    · by_cases hr : krB x = true
      · have hU : Hid (raiseU F d x = !((F d).isSome && decide (cmpK x ((F d).getD k00) ≤ 0))) := by
          unfold Hid
          simp [raiseU, hr, show 0 ≤ d by omega, show d < 8 by omega]
        have hE : Hid (raiseE d x = 0) := by
          unfold Hid
          simp [raiseE, hr, show 0 ≤ d by omega, show d < 8 by omega]
        have HR := Lib.hid hr
        clear hr
        go_enter Try.func33, Try.ntmps33
        go_wp2_with fail
        refine (kright_any x _).mono ?_
        rintro r w1 ⟨rfl, hb⟩
        rw [HR.out]
        obtain ⟨E1, S1, b1⟩ := after_one hb
        have HM1 := Lib.hid ((HM.out.keep (more (Below.refl _ _) _)).keep hb)
        have HB1 := Lib.hid ((HB.out.old (.cells #[.int .u32 x.e, .int .u32 x.s, .int .i64 x.m] 47)).keep hb)
        clear hb
        obtain ⟨D, hown, hD, hF⟩ := HM1.out
        have HOWN := Lib.hid hown
        have HF := Lib.hid hF
        obtain ⟨f1, f2⟩ := hF d hd
        obtain ⟨c0, -⟩ := HB1.out.one
        obtain ⟨x0, x1, x2, -⟩ := b1.three
        have lB := HB1.out.lt
        have l1 := b1.lt
        have hem := eqlmap M
        clear hown hF
        rcases hFd : F d with _ | y
        · rw [hFd] at f1 f2
          have hq : ∀ w', MapIs w' M (n + 1) (updF F d x) → w.grownBy w' (some M) → RaisePost M n F d x w (.returned (.tuple #[.bool true, .int .i64 0])) w' := by
            have h1 : raiseU F d x = true := by rw [hU.out, hFd]; rfl
            intro w' hM' hg
            refine ⟨by rw [h1, hE.out], ?_, hg⟩
            unfold raiseF
            rw [h1]
            exact hM'
          have HQ := Lib.hid hq
          have F1 : Hid (has D (dkey d) = false) := f1
          have F2 : Hid (D.atKey (dkey d) (encK k00) = encK k00) := f2
          clear f1 f2 hq hFd
          go_wp2_with (at_lookup; refine wpList_lookup_own_ok _ rfl _ _ 124 rfl 3 47 law3' Try.underlying124 keyElem (zero47 _) (encK k00) [] (keyElem_mk _) M n D rfl (by first | exact HOWN.out | exact HOWN.out.alloc _) _ _ rfl (dkey_of hd) ?_; intro v ps hv; rw [F2.out] at hv; obtain rfl := keyElem_inv hv; rw [F1.out]; clear hv)
          refine wp_region_flow_vars (fun w' => Below w.heap.size w w' ∧ Blk w' w.heap.size (.cells #[.int .u32 x.e, .int .u32 x.s, .int .i64 x.m] 47) ∧ Blk w' B (floObj M) ∧ w'.ownsMap Try.prog 3 keyElem M n D) [0, 1, 2, 3, 4, 5] [] [6] (fun _ => .cells #[] 0) (by kernel_rfl) (by kernel_rfl) (by kernel_rfl) (by decide)
            (fun _ _ h hb => ⟨thru h.1 hb, h.2.1.keep hb, h.2.2.1.keep hb, omk h.2.2.2 hb⟩)
            ⟨(more E1 _).drew, (b1.old _).draw, (HB1.out.old _).draw, (HOWN.out.alloc _)⟩ (by simp) (by decide) ?_
          refine flowN_sel _ _ (by decide) ?_
          simp only [sel, List.filterMap_cons, List.filterMap_nil, List.getElem?_toArray, List.getElem?_cons_succ, List.getElem?_cons_zero]
          repeat (first
            | (apply Flow.value
               · rfl
               · (intro wx hS; have c1 := hS.2.1.cell; have c2 := hS.2.2.1.cell; go_simp; with_reducible rfl)
               try simp only [Act.put, List.setIfInBounds_toArray, List.set_cons_zero, List.set_cons_succ]))
          refine Flow.done ?_
          intro γ w4 hS hn hg
          simp only [putNew]
          obtain ⟨w5, hrun, hown5, hgrow⟩ := hS.2.2.2.update law3' Try.underlying124 HN.out (dkey_of hd) (keyElem_mk x)
          have HO5 := Lib.hid hown5
          have HG5 := Lib.hid (grow_two hS.1 hgrow)
          have HR5 := hrun
          clear hS hn hg hown5 hgrow hrun
          refine wpOps_step rfl (by rfl) ?_
          go_simp
          try simp only [HR5, Result.andThen]
          refine wpOps_done ?_
          go_wp2_with fail
          go_ret2
          exact HQ.out w5 (MapIs.put hd hD HF.out HO5.out) HG5.out
        · rw [hFd] at f1 f2
          have F1 : Hid (has D (dkey d) = true) := f1
          have F2 : Hid (D.atKey (dkey d) (encK k00) = encK y) := f2
          clear f1 f2
          by_cases hcmp : cmpK x y ≤ 0
          · have HP : Hid (∀ w', Below w.heap.size w w' → RaisePost M n F d x w (.returned (.tuple #[.bool false, .int .i64 0])) w') :=
              fun w' hb => RaisePost.no (by rw [hU.out, hFd]; simp [hcmp]) hE.out HM.out hb
            have hcmp' : cmpK x y ≤ 0 := hcmp
            clear hFd
            go_wp2_with (at_lookup; refine wpList_lookup_own_ok _ rfl _ _ 124 rfl 3 47 law3' Try.underlying124 keyElem (zero47 _) (encK k00) [] (keyElem_mk _) M n D rfl (by first | exact HOWN.out | exact HOWN.out.alloc _) _ _ rfl (dkey_of hd) ?_; intro v ps hv; rw [F2.out] at hv; obtain rfl := keyElem_inv hv; rw [F1.out]; clear hv)
            refine (compare_any x y _).mono ?_
            rintro r w2 ⟨rfl, hb2⟩
            have E2 := thru (more E1 _) hb2
            clear hb2
            go_wp2_with fail
            go_ret2
            exact HP.out _ E2
          · have hq : ∀ w', MapIs w' M (n + 1) (updF F d x) → w.grownBy w' (some M) → RaisePost M n F d x w (.returned (.tuple #[.bool true, .int .i64 0])) w' := by
              have h1 : raiseU F d x = true := by rw [hU.out, hFd]; simp; omega
              intro w' hM' hg
              refine ⟨by rw [h1, hE.out], ?_, hg⟩
              unfold raiseF
              rw [h1]
              exact hM'
            have HQ := Lib.hid hq
            have hcmp' : ¬ cmpK x y ≤ 0 := hcmp
            clear hFd hq
            go_wp2_with (at_lookup; refine wpList_lookup_own_ok _ rfl _ _ 124 rfl 3 47 law3' Try.underlying124 keyElem (zero47 _) (encK k00) [] (keyElem_mk _) M n D rfl (by first | exact HOWN.out | exact HOWN.out.alloc _) _ _ rfl (dkey_of hd) ?_; intro v ps hv; rw [F2.out] at hv; obtain rfl := keyElem_inv hv; rw [F1.out]; clear hv)
            refine (compare_any x y _).mono ?_
            rintro r w2 ⟨rfl, hb2⟩
            have E2 := thru (more E1 _) hb2
            have B2 := (b1.old (.cells #[.int .u32 y.e, .int .u32 y.s, .int .i64 y.m] 47)).keep hb2
            have HB2 := (HB1.out.old (.cells #[.int .u32 y.e, .int .u32 y.s, .int .i64 y.m] 47)).keep hb2
            have HOWN2 := Lib.hid (omk (HOWN.out.alloc (.cells #[.int .u32 y.e, .int .u32 y.s, .int .i64 y.m] 47)) hb2)
            obtain ⟨c0, -⟩ := HB2.one
            have lB2 := HB2.lt
            clear hb2 x0 x1 x2
            go_wp2_with fail
            refine wp_region_flow_vars (fun w' => Below w.heap.size w w' ∧ Blk w' w.heap.size (.cells #[.int .u32 x.e, .int .u32 x.s, .int .i64 x.m] 47) ∧ Blk w' B (floObj M) ∧ w'.ownsMap Try.prog 3 keyElem M n D) [0, 1, 2, 3, 4, 5] [] [6] (fun _ => .cells #[] 0) (by kernel_rfl) (by kernel_rfl) (by kernel_rfl) (by decide)
              (fun _ _ h hb => ⟨thru h.1 hb, h.2.1.keep hb, h.2.2.1.keep hb, omk h.2.2.2 hb⟩)
              ⟨(E2).drew, (B2).draw, (HB2).draw, HOWN2.out⟩ (by simp) (by decide) ?_
            refine flowN_sel _ _ (by decide) ?_
            simp only [sel, List.filterMap_cons, List.filterMap_nil, List.getElem?_toArray, List.getElem?_cons_succ, List.getElem?_cons_zero]
            repeat (first
              | (apply Flow.value
                 · rfl
                 · (intro wx hS; have c1 := hS.2.1.cell; have c2 := hS.2.2.1.cell; go_simp; with_reducible rfl)
                 try simp only [Act.put, List.setIfInBounds_toArray, List.set_cons_zero, List.set_cons_succ]))
            refine Flow.done ?_
            intro γ w4 hS hn hg
            simp only [putNew]
            obtain ⟨w5, hrun, hown5, hgrow⟩ := hS.2.2.2.update law3' Try.underlying124 HN.out (dkey_of hd) (keyElem_mk x)
            have HO5 := Lib.hid hown5
            have HG5 := Lib.hid (grow_two hS.1 hgrow)
            have HR5 := hrun
            clear hS hn hg hown5 hgrow hrun
            refine wpOps_step rfl (by rfl) ?_
            go_simp
            try simp only [HR5, Result.andThen]
            refine wpOps_done ?_
            go_wp2_with fail
            go_ret2
            exact HQ.out w5 (MapIs.put hd hD HF.out HO5.out) HG5.out
      · have hr' : krB x = false := by simpa using hr
        have HP : Hid (∀ w', Below w.heap.size w w' → RaisePost M n F d x w (.returned (.tuple #[.bool false, .int .i64 1])) w') :=
          fun w' hb => RaisePost.no (by simp [raiseU, hr']) (by simp [raiseE, hr']) HM.out hb
        have HR := Lib.hid hr'
        clear hr hr'
        go_enter Try.func33, Try.ntmps33
        go_wp2_with fail
        refine (kright_any x _).mono ?_
        rintro r w1 ⟨rfl, hb⟩
        rw [HR.out]
        obtain ⟨E1, S1, b1⟩ := after_one hb
        go_wp2_with fail
        go_ret2
        exact HP.out _ E1
set_option maxRecDepth 100000 in
theorem newF_any (w : World) : Calls Try.prog 31 #[] w fun r w' => r = .returned (.pointer (some ⟨w.heap.size + 1, 0, none⟩)) ∧ (w.alloc (Obj.map #[] 0)).alloc (floObj w.heap.size) = w' := by
  have hmm := @run_makeMap Try.prog
  go_enter Try.func31, Try.ntmps31
  go_wp2_with fail
  go_ret
  exact ⟨rfl, rfl⟩
theorem MapIs.made (w : World) : MapIs (w.alloc (Obj.map #[] 0)) w.heap.size 0 (fun _ => none) :=
  ⟨.map [], World.ownsMap_made _ _ _ _, isMap_empty, fun d _ => ⟨rfl, rfl⟩⟩

end Go.Proofs.Ytfpmmbbbndobiaa
