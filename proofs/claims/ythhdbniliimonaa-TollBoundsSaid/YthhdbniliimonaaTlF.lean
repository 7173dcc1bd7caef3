/-
  The contracts of Most, of the document's Most, and of the document's example; the laws TollNil and TollMost.
-/
import Derived.Test.YthhdbniliimonaaTlE
namespace Go.Proofs.Ythhdbniliimonaa
open Go.RowKit
theorem prod_le {x y : Int} (hx : 0 ≤ x ∧ x ≤ 1073741824) (hy : 0 ≤ y ∧ y ≤ 1073741824) : 0 ≤ x * y ∧ x * y ≤ 1152921504606846976 := by
  refine ⟨Int.mul_nonneg hx.1 hy.1, ?_⟩
  have := Int.mul_le_mul hx.2 hy.2 hy.1 (by omega : (0 : Int) ≤ 1073741824)
  omega
theorem mostV_yes {a b c d n : Int} (h : rightV a b c d = true) (h0 : 0 ≤ n) (h1 : n ≤ 1073741824) : wrap64 (c + wrap64 (n * d)) = mostV a b c d n ∧ wrap64 (c + wrap64 (d * n)) = mostV a b c d n := by
  have hr : 1 ≤ a ∧ a ≤ 1073741824 ∧ 0 ≤ b ∧ b ≤ 1073741824 ∧ 1 ≤ c ∧ c ≤ 1073741824 ∧ 0 ≤ d ∧ d ≤ 1073741824 := by simpa [rightV] using h
  unfold mostV
  rw [if_pos ⟨h, h0, h1⟩, Int.mul_comm n d]
  have := prod_le (x := d) (y := n) (by omega) ⟨h0, h1⟩
  generalize d * n = p at *
  unfold wrap64
  omega
theorem mostV_no {a b c d n : Int} (h : rightV a b c d = false ∨ n < 0 ∨ 1073741824 < n) : mostV a b c d n = 0 := by
  unfold mostV
  rw [if_neg]
  rintro ⟨h1, h2, h3⟩
  rcases h with h | h | h
  · rw [h] at h1; cases h1
  · omega
  · omega
set_option maxHeartbeats 800000 in
theorem most_any (a b c d n : Int) (w : World) :
    Calls Try.prog 22 #[rate a b c d, .int .i64 n] w fun r w' => r = .returned (.int .i64 (mostV a b c d n)) ∧ Below w.heap.size w w' := by
  have HR := fun w1 => right_any a b c d w1
  unfold rate at HR ⊢
  go_enter Try.func22, Try.ntmps22
  go_wp2_with fail
  refine (HR _).mono ?_
  rintro r w1 ⟨rfl, hb⟩
  obtain ⟨h1, h2, h3⟩ := after_one hb
  have K := Kp.mk (And.intro h1 h2)
  obtain ⟨c0, c1, c2, c3, -⟩ := h3.four
  clear hb h1 h2 h3 HR
  by_cases hr : rightV a b c d = true
  · have H := Kp.mk hr
    rw [hr]
    clear hr
    by_cases h0 : n < 0
    · have HV := Kp.mk (mostV_no (a := a) (b := b) (c := c) (d := d) (.inr (.inl h0)))
      go_wp2_with fail
      go_ret
      exact ⟨reti HV.out.symm, K.out.1⟩
    · have h0' : 0 ≤ n := by omega
      by_cases h1 : 1073741824 < n
      · have HV := Kp.mk (mostV_no (a := a) (b := b) (c := c) (d := d) (.inr (.inr h1)))
        go_wp2_with fail
        go_ret
        exact ⟨reti HV.out.symm, K.out.1⟩
      · have h1' : n ≤ 1073741824 := by omega
        have HV := Kp.mk (mostV_yes H.out h0' h1').1
        clear h0 h1
        go_wp2_with fail
        go_ret
        exact ⟨reti HV.out, K.out.1⟩
  · have hr' : rightV a b c d = false := by simpa using hr
    have HV := Kp.mk (mostV_no (n := n) (.inl hr'))
    rw [hr']
    clear hr hr'
    go_wp2_with fail
    go_ret
    exact ⟨reti HV.out.symm, K.out.1⟩
set_option maxHeartbeats 800000 in
theorem rmost_any (a b c d n : Int) (w : World) :
    Calls Try.prog 23 #[rate a b c d, .int .i64 n] w fun r w' => r = .returned (.int .i64 (mostV a b c d n)) ∧ Below w.heap.size w w' := by
  have HR := fun w1 => rright_any a b c d w1
  unfold rate
  go_enter Try.func23, Try.ntmps23
  go_wp2_with fail
  refine (HR _).mono ?_
  rintro r w1 ⟨rfl, hb⟩
  obtain ⟨h1, h2, h3⟩ := after_one hb
  have K := Kp.mk (And.intro h1 h2)
  obtain ⟨c0, c1, c2, c3, -⟩ := h3.four
  clear hb h1 h2 h3 HR
  by_cases hr : rightV a b c d = true
  · have H := Kp.mk hr
    rw [hr]
    clear hr
    by_cases h0 : n < 0
    · have HV := Kp.mk (mostV_no (a := a) (b := b) (c := c) (d := d) (.inr (.inl h0)))
      go_wp2_with fail
      go_ret
      exact ⟨reti HV.out.symm, K.out.1⟩
    · have h0' : 0 ≤ n := by omega
      by_cases h1 : 1073741824 < n
      · have HV := Kp.mk (mostV_no (a := a) (b := b) (c := c) (d := d) (.inr (.inr h1)))
        go_wp2_with fail
        go_ret
        exact ⟨reti HV.out.symm, K.out.1⟩
      · have h1' : n ≤ 1073741824 := by omega
        have HV := Kp.mk (mostV_yes H.out h0' h1').2
        clear h0 h1
        go_wp2_with fail
        go_ret
        exact ⟨reti HV.out, K.out.1⟩
  · have hr' : rightV a b c d = false := by simpa using hr
    have HV := Kp.mk (mostV_no (n := n) (.inl hr'))
    rw [hr']
    clear hr hr'
    go_wp2_with fail
    go_ret
    exact ⟨reti HV.out.symm, K.out.1⟩
/-- A step of a toll that lies in new memory. -/
structure Own (w : World) (t : Nat) (s : TS) (w' : World) : Prop where
  le : w.heap.size ≤ t
  blk : Blk w' t s.obj
  hb : Below w.heap.size w w'
theorem Own.step {w w1 w2 : World} {t : Nat} {s s' : TS} (h : Own w t s w1) (k : Turn t s'.obj w1 w2) : Own w t s' w2 := ⟨h.le, k.blk, h.hb.trans (k.below h.le h.hb.size)⟩
theorem Own.more {w w1 w2 : World} {t : Nat} {s : TS} (h : Own w t s w1) (k : Below w1.heap.size w1 w2) : Own w t s w2 := ⟨h.le, h.blk.keep k, h.hb.trans (k.mono h.hb.size)⟩
theorem Own.drewN {w w1 : World} {t : Nat} {s : TS} (h : Own w t s w1) (n : Nat) : Own w t s (w1.drewN n) := ⟨h.le, h.blk, ⟨h.hb.os, h.hb.tape, h.hb.output, h.hb.size, h.hb.block⟩⟩
set_option maxHeartbeats 1600000 in
theorem awake_any (w : World) : Calls Try.prog 11 #[] w fun r w' => r = .returned (.bool true) ∧ Below w.heap.size w w' := by
  have HN := fun w1 => new_yes 2 1 10 3 w1 (by decide)
  unfold rate at HN
  go_enter Try.func11, Try.ntmps11
  go_wp2_with fail
  refine (HN _).mono ?_
  rintro r w1 ⟨t, rfl, h1, h2, h3⟩
  have K := Kp.mk (Own.mk h1 h2 h3)
  clear h1 h2 h3 HN
  go_wp2_with fail
  refine (frame_any t _ 4 _ K.out.blk).mono ?_
  rintro r w2 ⟨rfl, hT⟩
  rw [show frameE (⟨2, 1, 10, 3, 2, 10, 0⟩ : TS) 4 = 0 by simp [frameE, holdE, settleE, tickE]]
  rw [show frameS (⟨2, 1, 10, 3, 2, 10, 0⟩ : TS) 4 = (⟨2, 1, 10, 3, 1, 6, 0⟩ : TS) by simp [frameS, frameE, holdS, holdE, settleS, settleE, tickS, fillV, wrap64] <;> decide] at hT
  replace K := Kp.mk (K.out.step hT)
  clear hT
  go_wp2_with fail
  refine (frame_any t _ 4 _ K.out.blk).mono ?_
  rintro r w3 ⟨rfl, hT⟩
  rw [show frameE (⟨2, 1, 10, 3, 1, 6, 0⟩ : TS) 4 = 0 by simp [frameE, holdE, settleE, tickE]]
  rw [show frameS (⟨2, 1, 10, 3, 1, 6, 0⟩ : TS) 4 = (⟨2, 1, 10, 3, 0, 2, 0⟩ : TS) by simp [frameS, frameE, holdS, holdE, settleS, settleE, tickS, fillV, wrap64] <;> decide] at hT
  replace K := Kp.mk (K.out.step hT)
  clear hT
  go_wp2_with fail
  refine (frame_any t _ 0 _ K.out.blk).mono ?_
  rintro r w4 ⟨rfl, hT⟩
  rw [show frameE (⟨2, 1, 10, 3, 0, 2, 0⟩ : TS) 0 = 26 by simp [frameE, holdE, settleE, tickE]]
  rw [show frameS (⟨2, 1, 10, 3, 0, 2, 0⟩ : TS) 0 = (⟨2, 1, 10, 3, 0, 2, 0⟩ : TS) by simp [frameS, frameE, holdS, holdE, settleS, settleE, tickS, fillV, wrap64] <;> decide] at hT
  replace K := Kp.mk (K.out.step hT)
  clear hT
  go_wp2_with fail
  refine (tick_any t _ 1 _ K.out.blk).mono ?_
  rintro r w5 ⟨rfl, hT⟩
  rw [show tickE 1 = 0 by simp [frameE, holdE, settleE, tickE]]
  rw [show tickS (⟨2, 1, 10, 3, 0, 2, 0⟩ : TS) 1 = (⟨2, 1, 10, 3, 1, 5, 0⟩ : TS) by simp [frameS, frameE, holdS, holdE, settleS, settleE, tickS, fillV, wrap64] <;> decide] at hT
  replace K := Kp.mk (K.out.step hT)
  clear hT
  go_wp2_with fail
  refine (hold_any t _ 5 _ K.out.blk).mono ?_
  rintro r w6 ⟨rfl, hT⟩
  rw [show holdE (⟨2, 1, 10, 3, 1, 5, 0⟩ : TS) 5 = 0 by simp [frameE, holdE, settleE, tickE]]
  rw [show holdS (⟨2, 1, 10, 3, 1, 5, 0⟩ : TS) 5 = (⟨2, 1, 10, 3, 1, 0, 5⟩ : TS) by simp [frameS, frameE, holdS, holdE, settleS, settleE, tickS, fillV, wrap64] <;> decide] at hT
  replace K := Kp.mk (K.out.step hT)
  clear hT
  go_wp2_with fail
  refine (settle_any t _ 2 _ K.out.blk).mono ?_
  rintro r w7 ⟨rfl, hT⟩
  rw [show settleE (⟨2, 1, 10, 3, 1, 0, 5⟩ : TS) 2 = 0 by simp [frameE, holdE, settleE, tickE]]
  rw [show settleS (⟨2, 1, 10, 3, 1, 0, 5⟩ : TS) 2 = (⟨2, 1, 10, 3, 1, 3, 0⟩ : TS) by simp [frameS, frameE, holdS, holdE, settleS, settleE, tickS, fillV, wrap64] <;> decide] at hT
  replace K := Kp.mk (K.out.step hT)
  clear hT
  go_wp2_with fail
  refine (left_any t _ _ K.out.blk).mono ?_
  rintro r w8 ⟨rfl, nd, rfl⟩
  replace K := Kp.mk (K.out.drewN nd)
  go_wp2_with fail
  go_ret
  exact ⟨rfl, K.out.hb⟩
set_option maxHeartbeats 800000 in
theorem tollNil_walk (n : Int) (w : World) (_ : (Lit.int .i64 n).wf = true) :
    Calls Try.prog 6 #[.int .i64 n] w fun r w' => r = .returned (.bool true) ∧ Below w.heap.size w w' := by
  go_enter Try.func6, Try.ntmps6
  go_wp2_with fail
  refine (left_nil _).mono ?_
  rintro r w1 ⟨rfl, rfl⟩
  go_wp2_with fail
  refine (awake_any _).mono ?_
  rintro r w1 ⟨rfl, hb⟩
  have K := Kp.mk hb
  clear hb
  go_wp2_with fail
  refine (tolls_nil n _).1.mono ?_
  rintro r w2 ⟨rfl, rfl⟩
  go_wp2_with fail
  refine (tolls_nil n _).2.1.mono ?_
  rintro r w2 ⟨rfl, rfl⟩
  go_wp2_with fail
  refine (tolls_nil n _).2.2.1.mono ?_
  rintro r w2 ⟨rfl, rfl⟩
  go_wp2_with fail
  refine (tolls_nil n _).2.2.2.mono ?_
  rintro r w2 ⟨rfl, rfl⟩
  go_wp2_with fail
  go_ret
  exact ⟨rfl, K.out⟩
end Go.Proofs.Ythhdbniliimonaa
