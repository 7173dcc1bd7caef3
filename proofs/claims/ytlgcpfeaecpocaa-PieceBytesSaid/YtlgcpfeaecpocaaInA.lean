/-
  The contracts of In's small calls: Left, Err, Fail, next.
-/
import Derived.Test.YtlgcpfeaecpocaaBase
namespace Go.Proofs.Ytlgcpfeaecpocaa
open Go.RowKit

abbrev inObj (v : Value) (e : Int) : Obj := .cells #[v, .int .i64 e] 99
/-- In block I stands an In whose bytes l lie below M, with the error e. -/
structure InIs (w : World) (M I : Nat) (l : List Int) (e : Int) : Prop where
  le : M ≤ I
  is : ∃ v, HoldsB w M v l ∧ Blk w I (inObj v e)
  none : e ≠ 0 → l = []
/-- What a call on In makes of it. -/
structure InStep (M I : Nat) (l' : List Int) (e' : Int) (w w' : World) : Prop where
  is : InIs w' M I l' e'
  turn : ∃ o, Turn I o w w'

theorem InIs.keep {w w' : World} {M I : Nat} {l : List Int} {e : Int} (h : InIs w M I l e) (hb : Below w.heap.size w w') : InIs w' M I l e := by
  obtain ⟨h1, ⟨v, hv, hB⟩, h3⟩ := h
  exact ⟨h1, ⟨v, hv.keep hb, hB.keep hb⟩, h3⟩
theorem InIs.turn {w w' : World} {M I b : Nat} {o : Obj} {l : List Int} {e : Int} (h : InIs w M I l e) (hb : Turn b o w w') (hM : M ≤ b) (hne : I ≠ b) : InIs w' M I l e := by
  obtain ⟨h1, ⟨v, hv, hB⟩, h3⟩ := h
  exact ⟨h1, ⟨v, hv.turn hb hM, hb.keep hB hne⟩, h3⟩
theorem InIs.lt {w : World} {M I : Nat} {l : List Int} {e : Int} (h : InIs w M I l e) : I < w.heap.size := by
  obtain ⟨_, ⟨v, hv, hB⟩, _⟩ := h
  exact hB.lt
theorem InIs.len {w : World} {M I : Nat} {l : List Int} {e : Int} (h : InIs w M I l e) : l.length ≤ maxLen := by
  obtain ⟨_, ⟨v, hv, hB⟩, _⟩ := h
  exact hv.len
theorem InStep.same {w : World} {M I : Nat} {l : List Int} {e : Int} (h : InIs w M I l e) : InStep M I l e w w := by
  obtain ⟨h1, ⟨v, hv, hB⟩, h3⟩ := h
  exact ⟨⟨h1, ⟨v, hv, hB⟩, h3⟩, _, Turn.same hB⟩
theorem InStep.trans {w w1 w2 : World} {M I : Nat} {l l' : List Int} {e e' : Int} (h : InStep M I l e w w1) (k : InStep M I l' e' w1 w2) : InStep M I l' e' w w2 := by
  obtain ⟨_, o, ho⟩ := h
  obtain ⟨h2, o', ho'⟩ := k
  exact ⟨h2, o', ho.trans ho'⟩
theorem InStep.more {w w1 w2 : World} {M I : Nat} {l : List Int} {e : Int} (h : InStep M I l e w w1) (k : Below w1.heap.size w1 w2) : InStep M I l e w w2 := by
  obtain ⟨h1, o, ho⟩ := h
  exact ⟨h1.keep k, o, ho.more k⟩
theorem InStep.ahead {w w1 w2 : World} {M I : Nat} {l : List Int} {e : Int} (h : Below w.heap.size w w1) (k : InStep M I l e w1 w2) : InStep M I l e w w2 := by
  obtain ⟨h1, o, ho⟩ := k
  exact ⟨h1, o, ho.ahead h⟩

theorem InIs.drew {w : World} {M I : Nat} {l : List Int} {e : Int} (h : InIs w M I l e) : InIs w.drew M I l e := ⟨h.le, h.is, h.none⟩
theorem InStep.undrew {w w' : World} {M I : Nat} {l : List Int} {e : Int} (h : InStep M I l e w.drew w') : InStep M I l e w w' := by
  obtain ⟨h1, o, ho⟩ := h
  exact ⟨h1, o, ho.os, ho.tape, ho.output, ho.size, ho.blk, ho.other⟩
theorem InIs.upto {w w' : World} {M I B : Nat} {l : List Int} {e : Int} (h : InIs w M I l e) (k : Below B w w') (hB : I < B) : InIs w' M I l e := by
  obtain ⟨h1, ⟨v, hv, hb⟩, h3⟩ := h
  exact ⟨h1, ⟨v, hv.frame k.size fun i hi _ => k.block i (by omega), hb.upto k hB⟩, h3⟩
theorem InStep.upto {w w1 w2 : World} {M I B : Nat} {l : List Int} {e : Int} (h : InStep M I l e w w1) (k : Below B w1 w2) (hB : w.heap.size ≤ B) (hI : I < w.heap.size) : InStep M I l e w w2 := by
  obtain ⟨h1, o, ho⟩ := h
  exact ⟨h1.upto k (by omega), o, ho.upto k hB hI⟩
theorem InStep.size {w w1 : World} {M I : Nat} {l : List Int} {e : Int} (h : InStep M I l e w w1) : w.heap.size ≤ w1.heap.size := by
  obtain ⟨h1, o, ho⟩ := h
  exact ho.size
theorem InStep.keep {w w1 : World} {M I b : Nat} {l : List Int} {e : Int} {o : Obj} (h : InStep M I l e w w1) (hb : Blk w b o) (hne : b ≠ I) : Blk w1 b o := by
  obtain ⟨h1, o, ho⟩ := h
  exact ho.keep hb hne

set_option maxHeartbeats 400000 in
theorem left_any (M I : Nat) (l : List Int) (e : Int) (w : World) (h : InIs w M I l e) :
    Calls Try.prog 55 #[.pointer (some ⟨I, 0, none⟩)] w fun r w' => r = .returned (.int .i64 l.length) ∧ w = w' := by
  obtain ⟨_, ⟨v, hv, hB⟩, _⟩ := h
  obtain ⟨c0, c1, -⟩ := hB.two
  obtain ⟨a, cap, rfl, h2, h3, -⟩ := hv
  unfold maxLen at h3
  have h4 : l.length ≤ 9223372036854775807 := by omega
  clear hB h2 h3
  go_enter Try.func55, Try.ntmps55
  go_wp2_with fail
  go_ret
  exact ⟨rfl, rfl⟩

set_option maxHeartbeats 400000 in
theorem err_any (M I : Nat) (l : List Int) (e : Int) (w : World) (h : InIs w M I l e) :
    Calls Try.prog 57 #[.pointer (some ⟨I, 0, none⟩)] w fun r w' => r = .returned (.int .i64 e) ∧ w = w' := by
  obtain ⟨_, ⟨v, hv, hB⟩, _⟩ := h
  obtain ⟨c0, c1, -⟩ := hB.two
  clear hB hv
  go_enter Try.func57, Try.ntmps57
  go_wp2_with fail
  go_ret
  exact ⟨rfl, rfl⟩

/-- What Fail makes of the bytes and the error. -/
def failL (l : List Int) (e f : Int) : List Int := if e = 0 ∧ f ≠ 0 then [] else l
def failE (e f : Int) : Int := if e = 0 ∧ f ≠ 0 then f else e

theorem failL_no {l : List Int} {e f : Int} (h : e ≠ 0 ∨ f = 0) : failL l e f = l := if_neg (by omega)
theorem failE_no {e f : Int} (h : e ≠ 0 ∨ f = 0) : failE e f = e := if_neg (by omega)
theorem failL_yes {l : List Int} {e f : Int} (h : e = 0) (h2 : f ≠ 0) : failL l e f = [] := if_pos ⟨h, h2⟩
theorem failE_yes {e f : Int} (h : e = 0) (h2 : f ≠ 0) : failE e f = f := if_pos ⟨h, h2⟩

set_option maxHeartbeats 400000 in
theorem fail_any (M I : Nat) (l : List Int) (e f : Int) (w : World) (h : InIs w M I l e) :
    Calls Try.prog 56 #[.pointer (some ⟨I, 0, none⟩), .int .i64 f] w fun r w' => r = .returned (.tuple #[]) ∧ InStep M I (failL l e f) (failE e f) w w' := by
  have H := Lib.hid h
  have hM := h.le
  obtain ⟨_, ⟨v, hv, hB⟩, _⟩ := h
  obtain ⟨c0, c1, f0, f1⟩ := hB.two
  have HB := Lib.hid hB
  have lI := hB.lt
  clear hB hv
  by_cases he : e = 0
  · by_cases hf : f = 0
    · have HP : Hid (InStep M I (failL l e f) (failE e f) w w) := by
        unfold Hid
        rw [failL_no (.inr hf), failE_no (.inr hf)]
        exact InStep.same H.out
      have t0 : (e == 0) = true := by simp [he]
      have t1 : (f == 0) = true := by simp [hf]
      clear he hf
      go_enter Try.func56, Try.ntmps56
      go_wp2_with fail
      go_end0
      exact ⟨rfl, HP.out⟩
    · have HP : Hid (InStep M I (failL l e f) (failE e f) w ((w.setCell ⟨I, 0, none⟩ (.slice none 0 0)).setCell ⟨I, 1, none⟩ (.int .i64 f))) := by
        unfold Hid
        rw [failL_yes he hf, failE_yes he hf]
        have hT : Turn I (inObj (.slice none 0 0) f) w ((w.setCell ⟨I, 0, none⟩ (.slice none 0 0)).setCell ⟨I, 1, none⟩ (.int .i64 f)) := (((Turn.same HB.out).set 0 _).set 1 _).as rfl
        exact ⟨⟨hM, ⟨_, HoldsB.nil _ _, hT.blk⟩, fun _ => rfl⟩, _, hT⟩
      have t0 : (e == 0) = true := by simp [he]
      have t1 : (f == 0) = false := by simp [hf]
      clear he hf
      go_enter Try.func56, Try.ntmps56
      go_wp2_with fail
      go_end0
      exact ⟨rfl, HP.out⟩
  · have HP : Hid (InStep M I (failL l e f) (failE e f) w w) := by
      unfold Hid
      rw [failL_no (.inl he), failE_no (.inl he)]
      exact InStep.same H.out
    have t0 : (e == 0) = false := by simp [he]
    clear he
    go_enter Try.func56, Try.ntmps56
    go_wp2_with fail
    go_end0
    exact ⟨rfl, HP.out⟩

/-- What next makes of the bytes and the error, and what it answers. -/
def nextE (l : List Int) (e : Int) (k : Nat) : Int := if e = 0 ∧ l.length < k then 9 else e
def nextL (l : List Int) (e : Int) (k : Nat) : List Int := if e = 0 ∧ k ≤ l.length then l.drop k else []
def nextP (l : List Int) (e : Int) (k : Nat) : List Int := if e = 0 ∧ k ≤ l.length then l.take k else []

set_option maxHeartbeats 1600000 in
theorem next_any (M I : Nat) (l : List Int) (e : Int) (k : Nat) (w : World) (h : InIs w M I l e) (hk : k ≤ 9223372036854775807) :
    Calls Try.prog 53 #[.pointer (some ⟨I, 0, none⟩), .int .i64 k] w fun r w' => ∃ v, r = .returned v ∧ HoldsB w' M v (nextP l e k) ∧ InStep M I (nextL l e k) (nextE l e k) w w' := by
  have H := Lib.hid h
  have hM := h.le
  have hll := h.len
  unfold maxLen at hll
  by_cases hs : l.length < k
  · have H2 : Hid (∀ w', InStep M I (failL l e 9) (failE e 9) w w' → InStep M I (nextL l e k) (nextE l e k) w w' ∧ nextP l e k = []) := by
      intro w' h'
      have h1 : nextL l e k = failL l e 9 := by
        unfold nextL failL
        rw [if_neg (by omega)]
        by_cases he : e = 0
        · rw [if_pos ⟨he, by decide⟩]
        · rw [if_neg (by omega), H.out.none he]
      have h2 : nextE l e k = failE e 9 := by
        unfold nextE failE
        by_cases he : e = 0
        · rw [if_pos ⟨he, hs⟩, if_pos ⟨he, by decide⟩]
        · rw [if_neg (by omega), if_neg (by omega)]
      rw [h1, h2]
      exact ⟨h', by unfold nextP; rw [if_neg (by omega)]⟩
    have HE : Hid (failE e 9 ≠ 0) := by unfold Hid failE; split <;> omega
    have hs' : (l.length : Int) < k := by omega
    clear hs h
    go_enter Try.func53, Try.ntmps53
    go_wp2_with fail
    refine (left_any M I l e _ H.out).mono ?_
    rintro r w1 ⟨rfl, rfl⟩
    go_wp2_with fail
    refine (fail_any M I l e 9 _ H.out).mono ?_
    rintro r w1 ⟨rfl, h1⟩
    have H1 := Lib.hid h1
    clear h1
    go_wp2_with fail
    refine (err_any M I _ _ _ H1.out.is).mono ?_
    rintro r w2 ⟨rfl, rfl⟩
    have t0 : (failE e 9 == 0) = false := by simpa using HE.out
    generalize failE e 9 = q at *
    go_wp2_with fail
    go_ret
    exact ⟨_, rfl, by rw [(H2.out _ H1.out).2]; exact HoldsB.nil _ _, (H2.out _ H1.out).1⟩
  · have hs' : (k : Int) ≤ l.length := by omega
    by_cases he : e = 0
    · obtain ⟨_, ⟨v, hv, hB⟩, _⟩ := h
      obtain ⟨v1, hv1, hp1⟩ := hv.front (k := k) (by omega)
      obtain ⟨v2, hv2, hp2⟩ := hv.back (k := k) (by omega)
      obtain ⟨a2, n2, cap2, rfl, -⟩ := hp2.slice
      obtain ⟨c0, c1, f0, f1⟩ := hB.two
      have lI := hB.lt
      have HP : Hid (HoldsB (w.setCell ⟨I, 0, none⟩ (.slice a2 n2 cap2)) M v1 (nextP l e k) ∧ InStep M I (nextL l e k) (nextE l e k) w (w.setCell ⟨I, 0, none⟩ (.slice a2 n2 cap2))) := by
        have hT : Turn I (inObj (.slice a2 n2 cap2) e) w (w.setCell ⟨I, 0, none⟩ (.slice a2 n2 cap2)) := ((Turn.same hB).set 0 _).as rfl
        unfold Hid nextP nextL nextE
        rw [if_pos ⟨he, by omega⟩, if_pos ⟨he, by omega⟩, if_neg (by omega)]
        exact ⟨hp1.turn hT hM, ⟨hM, ⟨_, hp2.turn hT hM, hT.blk⟩, fun h => absurd he h⟩, _, hT⟩
      have t0 : (e == 0) = true := by simp [he]
      clear hB hp1 hp2 hs he hv
      go_enter Try.func53, Try.ntmps53
      go_wp2_with fail
      refine (left_any M I l e _ H.out).mono ?_
      rintro r w1 ⟨rfl, rfl⟩
      go_wp2_with fail
      refine (err_any M I _ _ _ H.out).mono ?_
      rintro r w2 ⟨rfl, rfl⟩
      go_wp2_with fail
      go_ret
      exact ⟨_, rfl, HP.out⟩
    · have hl := h.none he
      have HP : Hid (HoldsB w M (.slice none 0 0) (nextP l e k) ∧ InStep M I (nextL l e k) (nextE l e k) w w) := by
        unfold Hid nextP nextL nextE
        rw [if_neg (by omega), if_neg (by omega), if_neg (by omega)]
        exact ⟨HoldsB.nil _ _, hl ▸ InStep.same h⟩
      have t0 : (e == 0) = false := by simp [he]
      clear hs he h hl
      go_enter Try.func53, Try.ntmps53
      go_wp2_with fail
      refine (left_any M I l e _ H.out).mono ?_
      rintro r w1 ⟨rfl, rfl⟩
      go_wp2_with fail
      refine (err_any M I _ _ _ H.out).mono ?_
      rintro r w2 ⟨rfl, rfl⟩
      go_wp2_with fail
      go_ret
      exact ⟨_, rfl, HP.out⟩
end Go.Proofs.Ytlgcpfeaecpocaa
