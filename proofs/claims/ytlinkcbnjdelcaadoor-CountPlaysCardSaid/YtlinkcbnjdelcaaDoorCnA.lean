/-
  Counters in memory: isCounter, New, Add, Bump, Get.
-/
import Derived.Test.YtlinkcbnjdelcaaDoorBase
import Derived.Test.YtlinkcbnjdelcaaDoorFlowV
import Derived.Test.YtlinkcbnjdelcaaDoorLaid
import Derived.IntWalk
import Derived.Laws.LoneSync
import Derived.Laws.Externs
import Derived.Deep.WholeRow
import Derived.Deep.MidRow
namespace Go.Proofs.YtlinkcbnjdelcaaDoor
open Go.RowKit

theorem wpList_build_eq {P : Program} {w : World} {ops : Array Oper} {rest : List Oper} {o : Oper} {a : Act} {Q : Exit → Act → World → Prop} (hg : o.guard = none) (t : TypeId) (parts : Array (Nat × Operand)) (ho : o.op = .build t parts)
    (ps : Array (Nat × Value)) (hps : (parts.map fun (i, x) => (i, a.eval x)) = ps) (cells : Array Value) (hc : P.built t ps.toList = some cells) (h : wpList P ops Q rest (a.put o.dst (.agg cells)) w) : wpList P ops Q (o :: rest) a w := by
  subst hps
  refine wpList_plain hg fun _ hK => ?_
  unfold Oper.wp execOp
  simp only [ho, Sem.run_bind, run_build w t _ cells hc, Result.andThen_ok]
  exact hK _ _ h
/-- The cells of counters. -/
def cl (f : Nat → Int) : List Value := (List.range 19).map fun i => .int .i64 (f i)
def f0 : Nat → Int := fun _ => 0
def upd (f : Nat → Int) (k : Nat) (v : Int) : Nat → Int := fun i => if i = k then v else f i
abbrev cObj (f : Nat → Int) : Obj := .cells (cl f).toArray 50
theorem cl_len (f : Nat → Int) : (cl f).length = 19 := by simp [cl]
theorem cl_at (f : Nat → Int) {i : Nat} (h : i < 19) : (cl f)[i]? = some (.int .i64 (f i)) := by simp [cl, h]
theorem cl_set (f : Nat → Int) (k : Nat) (v : Int) : (cl f).set k (.int .i64 v) = cl (upd f k v) := by
  apply List.ext_getElem?
  intro i
  by_cases hi : i < 19
  · rw [cl_at _ hi, List.getElem?_set]
    unfold upd
    by_cases e : k = i
    · subst e; simp [cl, hi]
    · rw [if_neg e, cl_at _ hi, if_neg (fun h => e h.symm)]
  · rw [List.getElem?_eq_none (by rw [List.length_set, cl_len]; omega), List.getElem?_eq_none (by rw [cl_len]; omega)]
theorem built50 : Tryd.prog.built 50 [] = some (cl f0).toArray := by kernel_rfl
theorem Blk.cl {w : World} {b : Nat} {f : Nat → Int} (h : Blk w b (cObj f)) {i : Nat} (hi : i < 19) : w.cell? ⟨b, i, none⟩ = some (.int .i64 (f i)) := by
  rw [h.cell i, List.getElem?_toArray, cl_at f hi]
def okB (d : Int) : Bool := decide (0 ≤ d) && decide (d < 19)
set_option maxHeartbeats 1600000 in
theorem isC_any (d : Int) (w : World) : Calls Tryd.prog 19 #[.int .i64 d] w fun r w' => r = .returned (.bool (okB d)) ∧ w = w' := by
  by_cases h0 : 0 ≤ d
  · go_enter Tryd.func19, Tryd.ntmps19
    go_wp2_with fail
    go_ret
    exact ⟨by simp [okB, h0], rfl⟩
  · go_enter Tryd.func19, Tryd.ntmps19
    go_wp2_with fail
    go_ret
    exact ⟨by simp [okB]; omega, rfl⟩
theorem wpList_box_eq {P : Program} {w : World} {ops : Array Oper} {rest : List Oper} {o : Oper} {a : Act} {Q : Exit → Act → World → Prop} (hg : o.guard = none) (t : TypeId) (x : Operand) (ho : o.op = .box t x)
    (u : Value) (hx : a.eval x = u) (v : Value) (w' : World) (hrun : (Instr.box t u).run P w = .ok v w') (h : wpList P ops Q rest (a.put o.dst v) w') : wpList P ops Q (o :: rest) a w := by
  subst hx
  refine wpList_plain hg fun _ hK => ?_
  unfold Oper.wp execOp
  simp only [ho, Sem.run_bind, hrun, Result.andThen_ok]
  exact hK _ _ h
theorem new_any (w : World) : Calls Tryd.prog 5 #[] w fun r w' => r = .returned (.pointer (some ⟨w.heap.size, 0, none⟩)) ∧ w' = w.alloc (cObj f0) := by
  have hA : ∀ w : World, (Instr.box 50 (.agg (cl f0).toArray)).run Tryd.prog w = .ok (.pointer (some ⟨w.heap.size, 0, none⟩)) (w.alloc (cObj f0)) := fun w => by kernel_rfl
  have hb := built50
  obtain ⟨Z, hZ⟩ : ∃ Z, Z = (cl f0).toArray := ⟨_, rfl⟩
  have HZ : Kp (Z = (cl f0).toArray) := ⟨hZ⟩
  rw [← hZ] at hb
  have hA' : ∀ w : World, (Instr.box 50 (.agg Z)).run Tryd.prog w = .ok (.pointer (some ⟨w.heap.size, 0, none⟩)) (w.alloc (.cells Z 50)) := fun w => by rw [hZ]; exact hA w
  clear hA hZ
  have HB := Kp.mk hb
  have HA := Kp.mk hA'
  clear hb hA'
  go_enter Tryd.func5, Tryd.ntmps5
  go_wp2_with (first
    | (refine wpList_build_eq rfl 50 #[] rfl #[] (by simp) Z HB.out ?_)
    | (refine wpList_box_eq rfl 50 (.tmp 1) rfl _ rfl _ _ (HA.out _) ?_))
  go_ret
  exact ⟨rfl, by rw [HZ.out]⟩
/-- Some counter is so much more. -/
def addF (f : Nat → Int) (d m : Int) : Nat → Int := if okB d = true ∧ 0 ≤ m then upd f d.toNat (wrap64 (f d.toNat + m)) else f
def addE (d m : Int) : Int := if okB d = true ∧ 0 ≤ m then 0 else 1
theorem load_at {a : Addr} {x : Int} {w : World} (hc : w.cell? a = some (.int .i64 x)) : (callFunc 27 #[.pointer (some a)]).run Tryd.prog w = .ok (.value (.int .i64 x)) w :=
  run_call_load (P := Tryd.prog) Tryd.func27 (by kernel_rfl) (by kernel_rfl) (by kernel_rfl) .i64 (by kernel_rfl) hc
theorem add_at {a : Addr} {x y : Int} {w : World} (hc : w.cell? a = some (.int .i64 x)) (hz : w.frozen? a = false) : (callFunc 26 #[.pointer (some a), .int .i64 y]).run Tryd.prog w = .ok (.value (.int .i64 (wrap64 (x + y)))) (w.setCell a (.int .i64 (wrap64 (x + y)))) :=
  run_call_add (P := Tryd.prog) Tryd.func26 (by kernel_rfl) (by kernel_rfl) (by kernel_rfl) .i64 (by kernel_rfl) hc hz (by simp [go_sem, IntKind.wrap_i64]; unfold wrap64; omega)
set_option maxHeartbeats 3200000 in
theorem add_any (f : Nat → Int) (b : Nat) (d m : Int) (w : World) (h : Blk w b (cObj f)) : Calls Tryd.prog 6 #[.pointer (some ⟨b, 0, none⟩), .int .i64 d, .int .i64 m] w fun r w' => r = .returned (.int .i64 (addE d m)) ∧ Turn b (cObj (addF f d m)) w w' := by
  have HT : Kp (Turn b (cObj f) w w) := ⟨Turn.same h⟩
  cases ho : okB d with
  | false =>
    have HE : Kp (addE d m = 1 ∧ addF f d m = f) := ⟨by simp [addE, ho], by simp [addF, ho]⟩
    have HI := fun w1 => isC_any d w1
    rw [ho] at HI
    clear ho h
    go_enter Tryd.func6, Tryd.ntmps6
    go_wp2_with fail
    refine (HI _).mono ?_
    rintro r w1 ⟨rfl, rfl⟩
    go_wp2_with fail
    go_ret
    exact ⟨by rw [HE.out.1]; rfl, by rw [HE.out.2]; exact HT.out⟩
  | true =>
    have HI := fun w1 => isC_any d w1
    rw [ho] at HI
    by_cases hm : 0 ≤ m
    · have hd : ∃ k : Nat, d = k ∧ k < 19 := ⟨d.toNat, by simp [okB] at ho; omega⟩
      obtain ⟨k, rfl, hk⟩ := hd
      have HE : Kp (addE k m = 0 ∧ addF f k m = upd f k (wrap64 (f k + m))) := ⟨by simp [addE, ho, hm], by simp [addF, ho, hm]⟩
      have hk' : (k : Int) < 19 := by omega
      have hc := h.cl hk
      have hz : w.frozen? ⟨b, k, none⟩ = false := h.frozen k
      have hadd := add_at (y := m) hc hz
      have HF : Kp (Turn b (cObj (upd f k (wrap64 (f k + m)))) w (w.setCell ⟨b, k, none⟩ (.int .i64 (wrap64 (f k + m))))) := ⟨by
        have := (HT.out).set k (.int .i64 (wrap64 (f k + m)))
        rwa [show (cl f).toArray.setIfInBounds k (.int .i64 (wrap64 (f k + m))) = (cl (upd f k (wrap64 (f k + m)))).toArray by rw [List.setIfInBounds_toArray, cl_set]] at this⟩
      clear ho h hk hc hz
      go_enter Tryd.func6, Tryd.ntmps6
      go_wp2_with fail
      refine (HI _).mono ?_
      rintro r w1 ⟨rfl, rfl⟩
      go_wp2_with fail
      refine (show Calls Tryd.prog 20 #[.pointer (some ⟨b, k, none⟩), .int .i64 m] w fun r w' => r = .returned (.int .i64 (wrap64 (f k + m))) ∧ w' = w.setCell ⟨b, k, none⟩ (.int .i64 (wrap64 (f k + m))) by
        clear HE HF HI hm
        go_enter Tryd.func20, Tryd.ntmps20
        go_wp2_with fail
        go_ret
        exact ⟨rfl, rfl⟩).mono ?_
      rintro r w2 ⟨rfl, rfl⟩
      clear hadd
      revert HF
      generalize w.setCell ⟨b, k, none⟩ (.int .i64 (wrap64 (f k + m))) = w2
      intro HF
      go_wp2_with fail
      go_ret
      exact ⟨by rw [HE.out.1]; rfl, by rw [HE.out.2]; exact HF.out⟩
    · have HE : Kp (addE d m = 1 ∧ addF f d m = f) := ⟨by simp [addE, hm], by simp [addF, hm]⟩
      clear ho h
      go_enter Tryd.func6, Tryd.ntmps6
      go_wp2_with fail
      refine (HI _).mono ?_
      rintro r w1 ⟨rfl, rfl⟩
      go_wp2_with fail
      go_ret
      exact ⟨by rw [HE.out.1]; rfl, by rw [HE.out.2]; exact HT.out⟩
theorem bump_any (f : Nat → Int) (b : Nat) (d : Int) (w : World) (h : Blk w b (cObj f)) : Calls Tryd.prog 11 #[.pointer (some ⟨b, 0, none⟩), .int .i64 d] w fun r w' => r = .returned (.int .i64 (addE d 1)) ∧ Turn b (cObj (addF f d 1)) w w' := by
  have HA := add_any f b d 1 w h
  clear h
  go_enter Tryd.func11, Tryd.ntmps11
  go_wp2_with fail
  refine HA.mono ?_
  rintro r w1 ⟨rfl, hT⟩
  have HT := Kp.mk hT
  clear hT HA
  go_wp2_with fail
  go_ret
  exact ⟨rfl, HT.out⟩
def getF (f : Nat → Int) (d : Int) : Int := if okB d = true then f d.toNat else 0
set_option maxHeartbeats 1600000 in
theorem get_any (f : Nat → Int) (b : Nat) (d : Int) (w : World) (h : Blk w b (cObj f)) : Calls Tryd.prog 7 #[.pointer (some ⟨b, 0, none⟩), .int .i64 d] w fun r w' => r = .returned (.int .i64 (getF f d)) ∧ w = w' := by
  have HI := fun w1 => isC_any d w1
  cases ho : okB d with
  | false =>
    have HE : Kp (getF f d = 0) := ⟨by simp [getF, ho]⟩
    rw [ho] at HI
    clear ho h
    go_enter Tryd.func7, Tryd.ntmps7
    go_wp2_with fail
    refine (HI _).mono ?_
    rintro r w1 ⟨rfl, rfl⟩
    go_wp2_with fail
    go_ret
    exact ⟨by rw [HE.out]; rfl, rfl⟩
  | true =>
    rw [ho] at HI
    have hd : ∃ k : Nat, d = k ∧ k < 19 := ⟨d.toNat, by simp [okB] at ho; omega⟩
    obtain ⟨k, rfl, hk⟩ := hd
    have HE : Kp (getF f k = f k) := ⟨by simp [getF, ho]⟩
    have hk' : (k : Int) < 19 := by omega
    have hl := load_at (h.cl hk)
    clear ho h hk
    go_enter Tryd.func7, Tryd.ntmps7
    go_wp2_with fail
    refine (HI _).mono ?_
    rintro r w1 ⟨rfl, rfl⟩
    go_wp2_with fail
    refine (show Calls Tryd.prog 21 #[.pointer (some ⟨b, k, none⟩)] w fun r w' => r = .returned (.int .i64 (f k)) ∧ w' = w by
      clear HE HI
      go_enter Tryd.func21, Tryd.ntmps21
      go_wp2_with fail
      go_ret
      exact ⟨rfl, rfl⟩).mono ?_
    rintro r w2 ⟨rfl, rfl⟩
    go_wp2_with fail
    go_ret
    exact ⟨by rw [HE.out]; rfl, rfl⟩
end Go.Proofs.YtlinkcbnjdelcaaDoor
