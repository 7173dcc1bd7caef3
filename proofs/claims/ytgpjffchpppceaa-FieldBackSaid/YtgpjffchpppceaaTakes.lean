/-
  The contract of takes: whatever field is asked for, In and the document's In answer alike.
-/
import Derived.Test.YtgpjffchpppceaaRel
namespace Go.Proofs.Ytgpjffchpppceaa
open Go.RowKit

theorem rleft_rel {M R at' : Nat} {B l : List Int} {e : Int} {w : World} (h : RefIs w M R B at' e) (hr : Rel l e B at') :
    Calls Try.prog 47 #[.pointer (some ⟨R, 0, none⟩)] w fun r w' => r = .returned (.int .i64 l.length) ∧ Below w.heap.size w w' := by
  rw [hr.left]
  exact rleft_any M R B at' e w h
theorem rsumP_bytes {B : List Int} (h : Bytes B) (at' : Nat) (e : Int) : Bytes (rsumP B at' e) := by
  unfold rsumP
  split
  · exact (h.drop _).take _
  · intro x hx
    simp at hx
    omega
/-- Behind a step that touches In's block and the document's In's alone. -/
structure Bth (M I R : Nat) (B : List Int) (l : List Int) (e : Int) (at' : Nat) (e2 : Int) (w w' : World) : Prop where
  i : InIs w' M I l e
  r : RefIs w' M R B at' e2
  os : w'.os = w.os
  tape : w'.tape = w.tape
  output : w'.output = w.output
  size : w.heap.size ≤ w'.heap.size
  other : ∀ k, k < w.heap.size → k ≠ I → k ≠ R → w'.heap[k]? = w.heap[k]?
section
variable {M I R at1 at2 : Nat} {B l1 l2 : List Int} {e1 e2 f1 f2 : Int} {w w1 w2 : World}
theorem Bth.start (hi : InIs w M I l1 e1) (hr : RefIs w M R B at1 e2) : Bth M I R B l1 e1 at1 e2 w w := ⟨hi, hr, rfl, rfl, rfl, Nat.le_refl _, fun _ _ _ _ => rfl⟩
theorem Bth.below (h : Bth M I R B l1 e1 at1 e2 w w1) (hb : Below w1.heap.size w1 w2) : Bth M I R B l1 e1 at1 e2 w w2 :=
  ⟨h.i.keep hb, h.r.keep hb, hb.os.trans h.os, hb.tape.trans h.tape, hb.output.trans h.output, Nat.le_trans h.size hb.size, fun k hk h1 h2 => (hb.block k (Nat.lt_of_lt_of_le hk h.size)).trans (h.other k hk h1 h2)⟩
theorem Bth.inn (h : Bth M I R B l1 e1 at1 e2 w w1) (hs : InStep M I l2 f1 w1 w2) (hne : I ≠ R) : Bth M I R B l2 f1 at1 e2 w w2 := by
  obtain ⟨h1, o, ho⟩ := hs
  exact ⟨h1, h.r.turn ho h.i.le (Ne.symm hne), ho.os.trans h.os, ho.tape.trans h.tape, ho.output.trans h.output, Nat.le_trans h.size ho.size, fun k hk h1 h2 => (ho.other k (Nat.lt_of_lt_of_le hk h.size) h1).trans (h.other k hk h1 h2)⟩
theorem Bth.ref (h : Bth M I R B l1 e1 at1 e2 w w1) (hs : RefStep M R B at2 f2 w1 w2) (hne : I ≠ R) : Bth M I R B l1 e1 at2 f2 w w2 := by
  obtain ⟨h1, o, ho⟩ := hs
  exact ⟨h.i.turn ho h.r.le hne, h1, ho.os.trans h.os, ho.tape.trans h.tape, ho.output.trans h.output, Nat.le_trans h.size ho.size, fun k hk h1 h2 => (ho.other k (Nat.lt_of_lt_of_le hk h.size) h2).trans (h.other k hk h1 h2)⟩
theorem Bth.drew (h : Bth M I R B l1 e1 at1 e2 w w1) : Bth M I R B l1 e1 at1 e2 w w1.drew := ⟨h.i.drew, h.r.drew, h.os, h.tape, h.output, h.size, h.other⟩
theorem Bth.blk (h : Bth M I R B l1 e1 at1 e2 w w1) {b : Nat} {o : Obj} (hb : Blk w b o) (hi : b ≠ I) (hr : b ≠ R) : Blk w1 b o := (h.other b hb.lt hi hr).trans hb
end

theorem wpList_box_eq {P : Program} {w : World} {ops : Array Oper} {rest : List Oper} {o : Oper} {a : Act} {Q : Exit → Act → World → Prop} (hg : o.guard = none) (t : TypeId) (x : Operand) (ho : o.op = .box t x)
    (u : Value) (hx : a.eval x = u) (v : Value) (w' : World) (hrun : (Instr.box t u).run P w = .ok v w') (h : wpList P ops Q rest (a.put o.dst v) w') : wpList P ops Q (o :: rest) a w := by
  subst hx
  refine wpList_plain hg fun _ hK => ?_
  unfold Oper.wp execOp
  simp only [ho, Sem.run_bind, hrun, Result.andThen_ok]
  exact hK _ _ h
theorem info45 : (Try.prog.info? 45).map (·.size) = some 21 := by kernel_rfl
theorem box45 {C : Array Value} (hs : C.size = 21) (w : World) : (Instr.box 45 (.agg C)).run Try.prog w = .ok (.pointer (some ⟨w.heap.size, 0, none⟩)) (w.alloc (.cells C 45)) := by
  have h := info45
  cases hq : Try.prog.info? 45 with
  | none => simp [hq] at h
  | some i =>
    have hi : i.size = 21 := by simpa [hq] using h
    simp [Instr.box, newVar, sizeOf, typeInfo, hq, hi, Value.cells, hs, newRow]


set_option maxHeartbeats 1600000 in
theorem takes_0 (M I R : Nat) (B l : List Int) (e : Int) (at' : Nat) (C : Array Value) (most : Int) (w : World) (hi : InIs w M I l e) (hr : RefIs w M R B at' e) (hrel : Rel l e B at') (hne : I ≠ R)
    (hk : C[0]? = some (.int .i64 0)) (hm : C[20]? = some (.int .i64 most)) (hs : C.size = 21) (hm0 : -9223372036854775808 ≤ most) (hm1 : most ≤ 9223372036854775807) :
    Calls Try.prog 14 #[.pointer (some ⟨I, 0, none⟩), .pointer (some ⟨R, 0, none⟩), .agg C] w fun r w' => r = .returned (.bool true) ∧ ∃ l' e' at2, Rel l' e' B at2 ∧ Bth M I R B l' e' at2 e' w w' := by
  have hbx := box45 hs w
  have BX := Blk.new w (.cells C 45)
  have E0 := more (Below.refl _ w) (.cells C 45)
  have c0 := BX.cell 0
  have c20 := BX.cell 20
  rw [hk] at c0
  rw [hm] at c20
  have S0 := Lib.hid ((Bth.start hi hr).below E0)
  have HREL := Lib.hid hrel
  have hIl := hi.lt
  have hRl := hr.lt
  have hX : w.heap.size < (w.alloc (.cells C 45)).heap.size := by simp
  clear BX E0 hk hm hs hi hr hrel
  generalize hW : w.alloc (.cells C 45) = W0 at hbx c0 c20 S0 hX
  clear hW
  go_enter Try.func14, Try.ntmps14
  go_wp2_with (refine wpList_box_eq rfl 45 (.tmp 2) rfl (.agg C) rfl _ _ hbx ?_)
  refine (u8_any M I l e _ S0.out.i).mono ?_
  rintro r w1 ⟨rfl, h1⟩
  have HNX := Lib.hid (HREL.out.next 1)
  rw [HNX.out.1]
  have S1 := Lib.hid (S0.out.inn h1 hne)
  clear h1 c0 c20
  go_wp2_with fail
  refine (num_any M R B at' e 1 _ S1.out.r (by omega)).mono ?_
  rintro r w2 ⟨rfl, h2⟩
  have HT : Hid (Rel (nextL l e 1) (rawE B at' e 1) B (rawA B at' e 1) ∧ Bth M I R B (nextL l e 1) (rawE B at' e 1) (rawA B at' e 1) (rawE B at' e 1) w w2) := by
    have := S1.out.ref h2 hne
    rw [HNX.out.2.1] at this
    exact ⟨HNX.out.2.2, this⟩
  clear h2 S1 S0 HNX
  generalize nextL l e 1 = lx at HT
  generalize rawE B at' e 1 = ex at HT
  generalize rawA B at' e 1 = ax at HT
  go_wp2_with fail
  have HR1 := Lib.hid HT.out.1
  have HLE := Lib.hid HR1.out.left
  refine wp_region_flow (fun w' => Bth M I R B lx ex ax ex w w') (by kernel_rfl) (by kernel_rfl) (by kernel_rfl) (fun _ _ h hb => h.below hb) HT.out.2.drew ?_
  repeat (first
    | (apply Flow.call
       · rfl
       · (intro wx hS; go_simp; constructor <;> with_reducible rfl)
       · (intro wx hS; first
          | exact (err_any M I lx ex wx hS.i).mono (by rintro r w9 ⟨h1, rfl⟩; exact ⟨h1, Below.refl _ _⟩)
          | exact (left_any M I lx ex wx hS.i).mono (by rintro r w9 ⟨h1, rfl⟩; exact ⟨h1, Below.refl _ _⟩)
          | exact rleft_rel hS.r HR1.out)
       try simp only [Act.put, List.setIfInBounds_toArray, List.set_cons_zero, List.set_cons_succ])
    | (apply Flow.value
       · rfl
       · (intro wx hS; obtain ⟨vx, hvx, hBx⟩ := hS.r.is; have d2 := hBx.cell 2; clear hS hvx hBx; go_simp; with_reducible rfl)
       try simp only [Act.put, List.setIfInBounds_toArray, List.set_cons_zero, List.set_cons_succ]))
  refine Flow.done ?_
  intro w4 hS
  have HS4 := Lib.hid hS
  clear hS
  go_wp2_with fail
  go_ret
  exact ⟨rfl, lx, ex, ax, HR1.out, HS4.out⟩

set_option maxHeartbeats 1600000 in
theorem takes_1 (M I R : Nat) (B l : List Int) (e : Int) (at' : Nat) (C : Array Value) (most : Int) (w : World) (hi : InIs w M I l e) (hr : RefIs w M R B at' e) (hrel : Rel l e B at') (hne : I ≠ R)
    (hk : C[0]? = some (.int .i64 1)) (hm : C[20]? = some (.int .i64 most)) (hs : C.size = 21) (hm0 : -9223372036854775808 ≤ most) (hm1 : most ≤ 9223372036854775807) :
    Calls Try.prog 14 #[.pointer (some ⟨I, 0, none⟩), .pointer (some ⟨R, 0, none⟩), .agg C] w fun r w' => r = .returned (.bool true) ∧ ∃ l' e' at2, Rel l' e' B at2 ∧ Bth M I R B l' e' at2 e' w w' := by
  have hbx := box45 hs w
  have BX := Blk.new w (.cells C 45)
  have E0 := more (Below.refl _ w) (.cells C 45)
  have c0 := BX.cell 0
  have c20 := BX.cell 20
  rw [hk] at c0
  rw [hm] at c20
  have S0 := Lib.hid ((Bth.start hi hr).below E0)
  have HREL := Lib.hid hrel
  have hIl := hi.lt
  have hRl := hr.lt
  have hX : w.heap.size < (w.alloc (.cells C 45)).heap.size := by simp
  clear BX E0 hk hm hs hi hr hrel
  generalize hW : w.alloc (.cells C 45) = W0 at hbx c0 c20 S0 hX
  clear hW
  go_enter Try.func14, Try.ntmps14
  go_wp2_with (refine wpList_box_eq rfl 45 (.tmp 2) rfl (.agg C) rfl _ _ hbx ?_)
  refine (u16_any M I l e _ S0.out.i).mono ?_
  rintro r w1 ⟨rfl, h1⟩
  have HNX := Lib.hid (HREL.out.next 2)
  rw [HNX.out.1]
  have S1 := Lib.hid (S0.out.inn h1 hne)
  clear h1 c0 c20
  go_wp2_with fail
  refine (num_any M R B at' e 2 _ S1.out.r (by omega)).mono ?_
  rintro r w2 ⟨rfl, h2⟩
  have HT : Hid (Rel (nextL l e 2) (rawE B at' e 2) B (rawA B at' e 2) ∧ Bth M I R B (nextL l e 2) (rawE B at' e 2) (rawA B at' e 2) (rawE B at' e 2) w w2) := by
    have := S1.out.ref h2 hne
    rw [HNX.out.2.1] at this
    exact ⟨HNX.out.2.2, this⟩
  clear h2 S1 S0 HNX
  generalize nextL l e 2 = lx at HT
  generalize rawE B at' e 2 = ex at HT
  generalize rawA B at' e 2 = ax at HT
  go_wp2_with fail
  have HR1 := Lib.hid HT.out.1
  have HLE := Lib.hid HR1.out.left
  refine wp_region_flow (fun w' => Bth M I R B lx ex ax ex w w') (by kernel_rfl) (by kernel_rfl) (by kernel_rfl) (fun _ _ h hb => h.below hb) HT.out.2.drew ?_
  repeat (first
    | (apply Flow.call
       · rfl
       · (intro wx hS; go_simp; constructor <;> with_reducible rfl)
       · (intro wx hS; first
          | exact (err_any M I lx ex wx hS.i).mono (by rintro r w9 ⟨h1, rfl⟩; exact ⟨h1, Below.refl _ _⟩)
          | exact (left_any M I lx ex wx hS.i).mono (by rintro r w9 ⟨h1, rfl⟩; exact ⟨h1, Below.refl _ _⟩)
          | exact rleft_rel hS.r HR1.out)
       try simp only [Act.put, List.setIfInBounds_toArray, List.set_cons_zero, List.set_cons_succ])
    | (apply Flow.value
       · rfl
       · (intro wx hS; obtain ⟨vx, hvx, hBx⟩ := hS.r.is; have d2 := hBx.cell 2; clear hS hvx hBx; go_simp; with_reducible rfl)
       try simp only [Act.put, List.setIfInBounds_toArray, List.set_cons_zero, List.set_cons_succ]))
  refine Flow.done ?_
  intro w4 hS
  have HS4 := Lib.hid hS
  clear hS
  go_wp2_with fail
  go_ret
  exact ⟨rfl, lx, ex, ax, HR1.out, HS4.out⟩

set_option maxHeartbeats 1600000 in
theorem takes_2 (M I R : Nat) (B l : List Int) (e : Int) (at' : Nat) (C : Array Value) (most : Int) (w : World) (hi : InIs w M I l e) (hr : RefIs w M R B at' e) (hrel : Rel l e B at') (hne : I ≠ R)
    (hk : C[0]? = some (.int .i64 2)) (hm : C[20]? = some (.int .i64 most)) (hs : C.size = 21) (hm0 : -9223372036854775808 ≤ most) (hm1 : most ≤ 9223372036854775807) :
    Calls Try.prog 14 #[.pointer (some ⟨I, 0, none⟩), .pointer (some ⟨R, 0, none⟩), .agg C] w fun r w' => r = .returned (.bool true) ∧ ∃ l' e' at2, Rel l' e' B at2 ∧ Bth M I R B l' e' at2 e' w w' := by
  have hbx := box45 hs w
  have BX := Blk.new w (.cells C 45)
  have E0 := more (Below.refl _ w) (.cells C 45)
  have c0 := BX.cell 0
  have c20 := BX.cell 20
  rw [hk] at c0
  rw [hm] at c20
  have S0 := Lib.hid ((Bth.start hi hr).below E0)
  have HREL := Lib.hid hrel
  have hIl := hi.lt
  have hRl := hr.lt
  have hX : w.heap.size < (w.alloc (.cells C 45)).heap.size := by simp
  clear BX E0 hk hm hs hi hr hrel
  generalize hW : w.alloc (.cells C 45) = W0 at hbx c0 c20 S0 hX
  clear hW
  go_enter Try.func14, Try.ntmps14
  go_wp2_with (refine wpList_box_eq rfl 45 (.tmp 2) rfl (.agg C) rfl _ _ hbx ?_)
  refine (u32_any M I l e _ S0.out.i).mono ?_
  rintro r w1 ⟨rfl, h1⟩
  have HNX := Lib.hid (HREL.out.next 4)
  rw [HNX.out.1]
  have S1 := Lib.hid (S0.out.inn h1 hne)
  clear h1 c0 c20
  go_wp2_with fail
  refine (num_any M R B at' e 4 _ S1.out.r (by omega)).mono ?_
  rintro r w2 ⟨rfl, h2⟩
  have HT : Hid (Rel (nextL l e 4) (rawE B at' e 4) B (rawA B at' e 4) ∧ Bth M I R B (nextL l e 4) (rawE B at' e 4) (rawA B at' e 4) (rawE B at' e 4) w w2) := by
    have := S1.out.ref h2 hne
    rw [HNX.out.2.1] at this
    exact ⟨HNX.out.2.2, this⟩
  clear h2 S1 S0 HNX
  generalize nextL l e 4 = lx at HT
  generalize rawE B at' e 4 = ex at HT
  generalize rawA B at' e 4 = ax at HT
  go_wp2_with fail
  have HR1 := Lib.hid HT.out.1
  have HLE := Lib.hid HR1.out.left
  refine wp_region_flow (fun w' => Bth M I R B lx ex ax ex w w') (by kernel_rfl) (by kernel_rfl) (by kernel_rfl) (fun _ _ h hb => h.below hb) HT.out.2.drew ?_
  repeat (first
    | (apply Flow.call
       · rfl
       · (intro wx hS; go_simp; constructor <;> with_reducible rfl)
       · (intro wx hS; first
          | exact (err_any M I lx ex wx hS.i).mono (by rintro r w9 ⟨h1, rfl⟩; exact ⟨h1, Below.refl _ _⟩)
          | exact (left_any M I lx ex wx hS.i).mono (by rintro r w9 ⟨h1, rfl⟩; exact ⟨h1, Below.refl _ _⟩)
          | exact rleft_rel hS.r HR1.out)
       try simp only [Act.put, List.setIfInBounds_toArray, List.set_cons_zero, List.set_cons_succ])
    | (apply Flow.value
       · rfl
       · (intro wx hS; obtain ⟨vx, hvx, hBx⟩ := hS.r.is; have d2 := hBx.cell 2; clear hS hvx hBx; go_simp; with_reducible rfl)
       try simp only [Act.put, List.setIfInBounds_toArray, List.set_cons_zero, List.set_cons_succ]))
  refine Flow.done ?_
  intro w4 hS
  have HS4 := Lib.hid hS
  clear hS
  go_wp2_with fail
  go_ret
  exact ⟨rfl, lx, ex, ax, HR1.out, HS4.out⟩

set_option maxHeartbeats 1600000 in
theorem takes_3 (M I R : Nat) (B l : List Int) (e : Int) (at' : Nat) (C : Array Value) (most : Int) (w : World) (hi : InIs w M I l e) (hr : RefIs w M R B at' e) (hrel : Rel l e B at') (hne : I ≠ R)
    (hk : C[0]? = some (.int .i64 3)) (hm : C[20]? = some (.int .i64 most)) (hs : C.size = 21) (hm0 : -9223372036854775808 ≤ most) (hm1 : most ≤ 9223372036854775807) :
    Calls Try.prog 14 #[.pointer (some ⟨I, 0, none⟩), .pointer (some ⟨R, 0, none⟩), .agg C] w fun r w' => r = .returned (.bool true) ∧ ∃ l' e' at2, Rel l' e' B at2 ∧ Bth M I R B l' e' at2 e' w w' := by
  have hbx := box45 hs w
  have BX := Blk.new w (.cells C 45)
  have E0 := more (Below.refl _ w) (.cells C 45)
  have c0 := BX.cell 0
  have c20 := BX.cell 20
  rw [hk] at c0
  rw [hm] at c20
  have S0 := Lib.hid ((Bth.start hi hr).below E0)
  have HREL := Lib.hid hrel
  have hIl := hi.lt
  have hRl := hr.lt
  have hX : w.heap.size < (w.alloc (.cells C 45)).heap.size := by simp
  clear BX E0 hk hm hs hi hr hrel
  generalize hW : w.alloc (.cells C 45) = W0 at hbx c0 c20 S0 hX
  clear hW
  go_enter Try.func14, Try.ntmps14
  go_wp2_with (refine wpList_box_eq rfl 45 (.tmp 2) rfl (.agg C) rfl _ _ hbx ?_)
  refine (u64_any M I l e _ S0.out.i).mono ?_
  rintro r w1 ⟨rfl, h1⟩
  have HNX := Lib.hid (HREL.out.next 8)
  rw [HNX.out.1]
  have S1 := Lib.hid (S0.out.inn h1 hne)
  clear h1 c0 c20
  go_wp2_with fail
  refine (num_any M R B at' e 8 _ S1.out.r (by omega)).mono ?_
  rintro r w2 ⟨rfl, h2⟩
  have HT : Hid (Rel (nextL l e 8) (rawE B at' e 8) B (rawA B at' e 8) ∧ Bth M I R B (nextL l e 8) (rawE B at' e 8) (rawA B at' e 8) (rawE B at' e 8) w w2) := by
    have := S1.out.ref h2 hne
    rw [HNX.out.2.1] at this
    exact ⟨HNX.out.2.2, this⟩
  clear h2 S1 S0 HNX
  generalize nextL l e 8 = lx at HT
  generalize rawE B at' e 8 = ex at HT
  generalize rawA B at' e 8 = ax at HT
  go_wp2_with fail
  have HR1 := Lib.hid HT.out.1
  have HLE := Lib.hid HR1.out.left
  refine wp_region_flow (fun w' => Bth M I R B lx ex ax ex w w') (by kernel_rfl) (by kernel_rfl) (by kernel_rfl) (fun _ _ h hb => h.below hb) HT.out.2.drew ?_
  repeat (first
    | (apply Flow.call
       · rfl
       · (intro wx hS; go_simp; constructor <;> with_reducible rfl)
       · (intro wx hS; first
          | exact (err_any M I lx ex wx hS.i).mono (by rintro r w9 ⟨h1, rfl⟩; exact ⟨h1, Below.refl _ _⟩)
          | exact (left_any M I lx ex wx hS.i).mono (by rintro r w9 ⟨h1, rfl⟩; exact ⟨h1, Below.refl _ _⟩)
          | exact rleft_rel hS.r HR1.out)
       try simp only [Act.put, List.setIfInBounds_toArray, List.set_cons_zero, List.set_cons_succ])
    | (apply Flow.value
       · rfl
       · (intro wx hS; obtain ⟨vx, hvx, hBx⟩ := hS.r.is; have d2 := hBx.cell 2; clear hS hvx hBx; go_simp; with_reducible rfl)
       try simp only [Act.put, List.setIfInBounds_toArray, List.set_cons_zero, List.set_cons_succ]))
  refine Flow.done ?_
  intro w4 hS
  have HS4 := Lib.hid hS
  clear hS
  go_wp2_with fail
  go_ret
  exact ⟨rfl, lx, ex, ax, HR1.out, HS4.out⟩

set_option maxHeartbeats 1600000 in
theorem takes_4 (M I R : Nat) (B l : List Int) (e : Int) (at' : Nat) (C : Array Value) (most : Int) (w : World) (hi : InIs w M I l e) (hr : RefIs w M R B at' e) (hrel : Rel l e B at') (hne : I ≠ R)
    (hk : C[0]? = some (.int .i64 4)) (hm : C[20]? = some (.int .i64 most)) (hs : C.size = 21) (hm0 : -9223372036854775808 ≤ most) (hm1 : most ≤ 9223372036854775807) :
    Calls Try.prog 14 #[.pointer (some ⟨I, 0, none⟩), .pointer (some ⟨R, 0, none⟩), .agg C] w fun r w' => r = .returned (.bool true) ∧ ∃ l' e' at2, Rel l' e' B at2 ∧ Bth M I R B l' e' at2 e' w w' := by
  have hbx := box45 hs w
  have BX := Blk.new w (.cells C 45)
  have E0 := more (Below.refl _ w) (.cells C 45)
  have c0 := BX.cell 0
  have c20 := BX.cell 20
  rw [hk] at c0
  rw [hm] at c20
  have S0 := Lib.hid ((Bth.start hi hr).below E0)
  have HREL := Lib.hid hrel
  have hIl := hi.lt
  have hRl := hr.lt
  have hX : w.heap.size < (w.alloc (.cells C 45)).heap.size := by simp
  clear BX E0 hk hm hs hi hr hrel
  generalize hW : w.alloc (.cells C 45) = W0 at hbx c0 c20 S0 hX
  clear hW
  go_enter Try.func14, Try.ntmps14
  go_wp2_with (refine wpList_box_eq rfl 45 (.tmp 2) rfl (.agg C) rfl _ _ hbx ?_)
  refine (sum_any M I l e _ S0.out.i).mono ?_
  rintro r w1 ⟨rfl, h1⟩
  have HNX := Lib.hid (HREL.out.next 16)
  rw [HREL.out.sum]
  have S1 := Lib.hid (S0.out.inn h1 hne)
  have hgd := eqg51 (rsumP B at' e) (rsumP B at' e)
  have heq := eql51 (p := rsumP B at' e) (rsumP_bytes S0.out.r.bytes at' e) (rsumP_len B at' e)
  clear h1 c0 c20
  go_wp2_with fail
  refine (rsum_any M R B at' e _ S1.out.r).mono ?_
  rintro r w2 ⟨rfl, h2⟩
  have HT : Hid (Rel (nextL l e 16) (rawE B at' e 16) B (rawA B at' e 16) ∧ Bth M I R B (nextL l e 16) (rawE B at' e 16) (rawA B at' e 16) (rawE B at' e 16) w w2) := by
    have := S1.out.ref h2 hne
    rw [HNX.out.2.1] at this
    exact ⟨HNX.out.2.2, this⟩
  clear h2 S1 S0 HNX
  generalize nextL l e 16 = lx at HT
  generalize rawE B at' e 16 = ex at HT
  generalize rawA B at' e 16 = ax at HT
  go_wp2_with fail
  clear heq hgd
  have HR1 := Lib.hid HT.out.1
  have HLE := Lib.hid HR1.out.left
  refine wp_region_flow (fun w' => Bth M I R B lx ex ax ex w w') (by kernel_rfl) (by kernel_rfl) (by kernel_rfl) (fun _ _ h hb => h.below hb) HT.out.2.drew ?_
  repeat (first
    | (apply Flow.call
       · rfl
       · (intro wx hS; go_simp; constructor <;> with_reducible rfl)
       · (intro wx hS; first
          | exact (err_any M I lx ex wx hS.i).mono (by rintro r w9 ⟨h1, rfl⟩; exact ⟨h1, Below.refl _ _⟩)
          | exact (left_any M I lx ex wx hS.i).mono (by rintro r w9 ⟨h1, rfl⟩; exact ⟨h1, Below.refl _ _⟩)
          | exact rleft_rel hS.r HR1.out)
       try simp only [Act.put, List.setIfInBounds_toArray, List.set_cons_zero, List.set_cons_succ])
    | (apply Flow.value
       · rfl
       · (intro wx hS; obtain ⟨vx, hvx, hBx⟩ := hS.r.is; have d2 := hBx.cell 2; clear hS hvx hBx; go_simp; with_reducible rfl)
       try simp only [Act.put, List.setIfInBounds_toArray, List.set_cons_zero, List.set_cons_succ]))
  refine Flow.done ?_
  intro w4 hS
  have HS4 := Lib.hid hS
  clear hS
  go_wp2_with fail
  go_ret
  exact ⟨rfl, lx, ex, ax, HR1.out, HS4.out⟩

end Go.Proofs.Ytgpjffchpppceaa
