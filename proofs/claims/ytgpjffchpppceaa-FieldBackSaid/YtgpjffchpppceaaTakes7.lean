/-
  The contract of takes, where a field is refused, and where nothing is asked.
-/
import Derived.Test.YtgpjffchpppceaaTakes
namespace Go.Proofs.Ytgpjffchpppceaa
open Go.RowKit

set_option maxHeartbeats 1600000 in
theorem takes_7 (M I R : Nat) (B l : List Int) (e : Int) (at' : Nat) (C : Array Value) (most : Int) (w : World) (hi : InIs w M I l e) (hr : RefIs w M R B at' e) (hrel : Rel l e B at') (hne : I ≠ R)
    (hk : C[0]? = some (.int .i64 7)) (hm : C[20]? = some (.int .i64 most)) (hs : C.size = 21) (hm0 : -9223372036854775808 ≤ most) (hm1 : most ≤ 9223372036854775807) :
    Calls Try.prog 14 #[.pointer (some ⟨I, 0, none⟩), .pointer (some ⟨R, 0, none⟩), .agg C] w fun r w' => r = .returned (.bool true) ∧ ∃ l' e' at2, Rel l' e' B at2 ∧ Bth M I R B l' e' at2 e' w w' := by
  have hbx := box45 hs w
  have BX := Blk.new w (.cells C 45)
  have E0 := more (Below.refl _ w) (.cells C 45)
  have c0 := BX.cell 0
  have c20 := BX.cell 20
  rw [hk] at c0
  rw [hm] at c20
  have S0 := Lib.hid ((Bth.start hi hr).below E0)
  have HREL := Lib.hid hrel
  have hIl := hi.lt
  have hRl := hr.lt
  have hX : w.heap.size < (w.alloc (.cells C 45)).heap.size := by simp
  clear BX E0 hk hm hs hi hr hrel
  generalize hW : w.alloc (.cells C 45) = W0 at hbx c0 c20 S0 hX
  clear hW
  by_cases he : e = 0
  · have t0 : (e == 0) = true := by simp [he]
    go_enter Try.func14, Try.ntmps14
    go_wp2_with (refine wpList_box_eq rfl 45 (.tmp 2) rfl (.agg C) rfl _ _ hbx ?_)
    refine (fail_any M I l e (most.tmod 50) _ S0.out.i).mono ?_
    rintro r w1 ⟨rfl, h1⟩
    have S1 := Lib.hid (S0.out.inn h1 hne)
    have hc20 : w1.cell? ⟨w.heap.size, 20, none⟩ = some (.int .i64 most) := by
      obtain ⟨_, o, ho⟩ := h1
      exact (World.cell?_of_block (w := W0) (a := ⟨w.heap.size, 20, none⟩) (ho.other _ hX (by show w.heap.size ≠ I; omega))).trans c20
    obtain ⟨vr, hvr, hBr⟩ := S1.out.r.is
    obtain ⟨d0, d1, d2, g0, g1, g2⟩ := hBr.three
    have lR := hBr.lt
    have HT : Hid (Rel (failL l e (most.tmod 50)) (failE e (most.tmod 50)) B at' ∧ Bth M I R B (failL l e (most.tmod 50)) (failE e (most.tmod 50)) at' (failE e (most.tmod 50)) w (w1.setCell ⟨R, 2, none⟩ (.int .i64 (most.tmod 50)))) := by
      have hf : failE e (most.tmod 50) = most.tmod 50 := by
        unfold failE
        by_cases hz : most.tmod 50 = 0
        · rw [if_neg (by omega), he, hz]
        · rw [if_pos ⟨he, hz⟩]
      have := S1.out.ref (S1.out.r.fail (most.tmod 50)) hne
      refine ⟨HREL.out.fail _, ?_⟩
      rw [hf] at this ⊢
      exact this
    generalize failL l e (most.tmod 50) = lx at HT
    generalize failE e (most.tmod 50) = ex at HT
    clear S1 h1 c0 c20 hBr hvr
    go_wp2_with fail
    clear d0 d1 d2 g0 g1 g2 lR
    generalize w1.setCell ⟨R, 2, none⟩ (.int .i64 (most.tmod 50)) = w2 at HT ⊢
    obtain ⟨ax, hax⟩ : ∃ ax, ax = at' := ⟨_, rfl⟩
    rw [← hax] at HT
    have HR1 := Lib.hid HT.out.1
    have HLE := Lib.hid HR1.out.left
    refine wp_region_flow (fun w' => Bth M I R B lx ex ax ex w w') (by kernel_rfl) (by kernel_rfl) (by kernel_rfl) (fun _ _ h hb => h.below hb) HT.out.2.drew ?_
    repeat (first
      | (apply Flow.call
         · rfl
         · (intro wx hS; go_simp; constructor <;> with_reducible rfl)
         · (intro wx hS; first
            | exact (err_any M I lx ex wx hS.i).mono (by rintro r w9 ⟨h1, rfl⟩; exact ⟨h1, Below.refl _ _⟩)
            | exact (left_any M I lx ex wx hS.i).mono (by rintro r w9 ⟨h1, rfl⟩; exact ⟨h1, Below.refl _ _⟩)
            | exact rleft_rel hS.r HR1.out)
         try simp only [Act.put, List.setIfInBounds_toArray, List.set_cons_zero, List.set_cons_succ])
      | (apply Flow.value
         · rfl
         · (intro wx hS; obtain ⟨vx, hvx, hBx⟩ := hS.r.is; have d2 := hBx.cell 2; clear hS hvx hBx; go_simp; with_reducible rfl)
         try simp only [Act.put, List.setIfInBounds_toArray, List.set_cons_zero, List.set_cons_succ]))
    refine Flow.done ?_
    intro w4 hS
    have HS4 := Lib.hid hS
    clear hS
    go_wp2_with fail
    go_ret
    exact ⟨rfl, lx, ex, ax, HR1.out, HS4.out⟩
  · have t0 : (e == 0) = false := by simp [he]
    go_enter Try.func14, Try.ntmps14
    go_wp2_with (refine wpList_box_eq rfl 45 (.tmp 2) rfl (.agg C) rfl _ _ hbx ?_)
    refine (fail_any M I l e (most.tmod 50) _ S0.out.i).mono ?_
    rintro r w2 ⟨rfl, h1⟩
    have S1 := Lib.hid (S0.out.inn h1 hne)
    obtain ⟨vr, hvr, hBr⟩ := S1.out.r.is
    obtain ⟨d0, d1, d2, -⟩ := hBr.three
    have HT : Hid (Rel (failL l e (most.tmod 50)) (failE e (most.tmod 50)) B at' ∧ Bth M I R B (failL l e (most.tmod 50)) (failE e (most.tmod 50)) at' (failE e (most.tmod 50)) w w2) := by
      refine ⟨HREL.out.fail _, ?_⟩
      have := S1.out
      rw [failE_no (.inl he)] at this ⊢
      exact this
    generalize failL l e (most.tmod 50) = lx at HT
    generalize failE e (most.tmod 50) = ex at HT
    clear S1 h1 c0 c20 hBr hvr he
    go_wp2_with fail
    clear d0 d1 d2
    obtain ⟨ax, hax⟩ : ∃ ax, ax = at' := ⟨_, rfl⟩
    rw [← hax] at HT
    have HR1 := Lib.hid HT.out.1
    have HLE := Lib.hid HR1.out.left
    refine wp_region_flow (fun w' => Bth M I R B lx ex ax ex w w') (by kernel_rfl) (by kernel_rfl) (by kernel_rfl) (fun _ _ h hb => h.below hb) HT.out.2.drew ?_
    repeat (first
      | (apply Flow.call
         · rfl
         · (intro wx hS; go_simp; constructor <;> with_reducible rfl)
         · (intro wx hS; first
            | exact (err_any M I lx ex wx hS.i).mono (by rintro r w9 ⟨h1, rfl⟩; exact ⟨h1, Below.refl _ _⟩)
            | exact (left_any M I lx ex wx hS.i).mono (by rintro r w9 ⟨h1, rfl⟩; exact ⟨h1, Below.refl _ _⟩)
            | exact rleft_rel hS.r HR1.out)
         try simp only [Act.put, List.setIfInBounds_toArray, List.set_cons_zero, List.set_cons_succ])
      | (apply Flow.value
         · rfl
         · (intro wx hS; obtain ⟨vx, hvx, hBx⟩ := hS.r.is; have d2 := hBx.cell 2; clear hS hvx hBx; go_simp; with_reducible rfl)
         try simp only [Act.put, List.setIfInBounds_toArray, List.set_cons_zero, List.set_cons_succ]))
    refine Flow.done ?_
    intro w4 hS
    have HS4 := Lib.hid hS
    clear hS
    go_wp2_with fail
    go_ret
    exact ⟨rfl, lx, ex, ax, HR1.out, HS4.out⟩

set_option maxHeartbeats 1600000 in
theorem takes_no (M I R : Nat) (B l : List Int) (e : Int) (at' : Nat) (C : Array Value) (kind most : Int) (w : World) (hi : InIs w M I l e) (hr : RefIs w M R B at' e) (hrel : Rel l e B at') (hne : I ≠ R)
    (hk : C[0]? = some (.int .i64 kind)) (hm : C[20]? = some (.int .i64 most)) (hs : C.size = 21) (hkk : kind < 0 ∨ 7 < kind) (hm0 : -9223372036854775808 ≤ most) (hm1 : most ≤ 9223372036854775807) :
    Calls Try.prog 14 #[.pointer (some ⟨I, 0, none⟩), .pointer (some ⟨R, 0, none⟩), .agg C] w fun r w' => r = .returned (.bool true) ∧ ∃ l' e' at2, Rel l' e' B at2 ∧ Bth M I R B l' e' at2 e' w w' := by
  have hbx := box45 hs w
  have BX := Blk.new w (.cells C 45)
  have E0 := more (Below.refl _ w) (.cells C 45)
  have c0 := BX.cell 0
  have c20 := BX.cell 20
  rw [hk] at c0
  rw [hm] at c20
  have S0 := Lib.hid ((Bth.start hi hr).below E0)
  have HREL := Lib.hid hrel
  have hIl := hi.lt
  have hRl := hr.lt
  have hX : w.heap.size < (w.alloc (.cells C 45)).heap.size := by simp
  clear BX E0 hk hm hs hi hr hrel
  generalize hW : w.alloc (.cells C 45) = W0 at hbx c0 c20 S0 hX
  clear hW
  have HT : Hid (Rel l e B at' ∧ Bth M I R B l e at' e w W0) := ⟨HREL.out, S0.out⟩
  clear S0 c20
  have k0 : (kind == 0) = false := by simp; omega
  have k1 : (kind == 1) = false := by simp; omega
  have k2 : (kind == 2) = false := by simp; omega
  have k3 : (kind == 3) = false := by simp; omega
  have k4 : (kind == 4) = false := by simp; omega
  have k5 : (kind == 5) = false := by simp; omega
  have k6 : (kind == 6) = false := by simp; omega
  have k7 : (kind == 7) = false := by simp; omega
  clear hkk
  go_enter Try.func14, Try.ntmps14
  go_wp2_with (refine wpList_box_eq rfl 45 (.tmp 2) rfl (.agg C) rfl _ _ hbx ?_)
  clear c0 k0 k1 k2 k3 k4 k5 k6 k7
  obtain ⟨lx, hlx⟩ : ∃ lx, lx = l := ⟨_, rfl⟩
  obtain ⟨ex, hex⟩ : ∃ ex, ex = e := ⟨_, rfl⟩
  obtain ⟨ax, hax⟩ : ∃ ax, ax = at' := ⟨_, rfl⟩
  rw [← hlx, ← hex, ← hax] at HT
  have HLX := Lib.hid (And.intro hlx (And.intro hex hax))
  clear hlx hex hax
  have HR1 := Lib.hid HT.out.1
  have HLE := Lib.hid HR1.out.left
  refine wp_region_flow (fun w' => Bth M I R B lx ex ax ex w w') (by kernel_rfl) (by kernel_rfl) (by kernel_rfl) (fun _ _ h hb => h.below hb) HT.out.2.drew ?_
  repeat (first
    | (apply Flow.call
       · rfl
       · (intro wx hS; go_simp; constructor <;> with_reducible rfl)
       · (intro wx hS; first
          | exact (err_any M I lx ex wx hS.i).mono (by rintro r w9 ⟨h1, rfl⟩; exact ⟨h1, Below.refl _ _⟩)
          | exact (left_any M I lx ex wx hS.i).mono (by rintro r w9 ⟨h1, rfl⟩; exact ⟨h1, Below.refl _ _⟩)
          | exact rleft_rel hS.r HR1.out)
       try simp only [Act.put, List.setIfInBounds_toArray, List.set_cons_zero, List.set_cons_succ])
    | (apply Flow.value
       · rfl
       · (intro wx hS; obtain ⟨vx, hvx, hBx⟩ := hS.r.is; have d2 := hBx.cell 2; clear hS hvx hBx; go_simp; with_reducible rfl)
       try simp only [Act.put, List.setIfInBounds_toArray, List.set_cons_zero, List.set_cons_succ]))
  refine Flow.done ?_
  intro w4 hS
  have HS4 := Lib.hid hS
  clear hS
  go_wp2_with fail
  go_ret
  exact ⟨rfl, lx, ex, ax, HR1.out, HS4.out⟩
end Go.Proofs.Ytgpjffchpppceaa
