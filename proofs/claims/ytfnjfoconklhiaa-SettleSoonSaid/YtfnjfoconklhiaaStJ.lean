/-
  Plans stay what plans are; the document's example; SettleNil.
-/
import Derived.Test.YtfnjfoconklhiaaStH
namespace Go.Proofs.Ytfnjfoconklhiaa
open Go.RowKit

theorem PS.Ok.note {p : PS} (h : p.Ok) (now d e s m : Int) (u : Bool) : (p.note now d e s m u).Ok := by
  unfold PS.note
  cases hB : noteB now d e s m with
  | false => simpa using h
  | true =>
    have ht : tmB now = true := by
      unfold noteB at hB
      simp at hB
      exact hB.2.1
    rw [if_pos rfl]
    refine ⟨h.right, h.told, fun i hi => ?_, fun i hi => ?_⟩
    · unfold PS.put
      simp only
      split
      · unfold NW.note
        simp only
        split
        · exact ht
        · exact h.first _ (by omega)
      · exact h.first _ hi
    · unfold PS.put
      simp only
      split
      · intro _
        rfl
      · exact h.urgent _ hi
theorem PS.Ok.tell {p : PS} (h : p.Ok) (l : List Nat) : (p.tell l).Ok := by
  refine ⟨h.right, h.told, fun i hi => ?_, fun i hi => ?_⟩
  · unfold PS.tell
    simp only
    split
    · exact h.first _ hi
    · exact h.first _ hi
  · unfold PS.tell
    simp only
    split
    · intro hx
      cases hx
    · exact h.urgent _ hi
theorem PS.Ok.due {p : PS} (h : p.Ok) (now : Int) : (p.due now).Ok := by
  unfold PS.due
  split
  · rename_i ht
    split
    · have := h.tell (those p (fun n => n.waits) 8)
      exact ⟨this.right, ht, this.first, this.urgent⟩
    · exact h.tell _
  · exact h
/-- A plan that lies in new memory. -/
structure Own (w : World) (t : Nat) (p : PS) (w' : World) : Prop where
  le : w.heap.size ≤ t
  blk : Blk w' t p.obj
  hb : Below w.heap.size w w'
  ok : p.Ok
theorem Own.step {w w1 w2 : World} {t : Nat} {s s' : PS} (h : Own w t s w1) (k : Turn t s'.obj w1 w2) (ho : s'.Ok) : Own w t s' w2 := ⟨h.le, k.blk, h.hb.trans (k.below h.le h.hb.size), ho⟩
theorem Own.more {w w1 w2 : World} {t : Nat} {s : PS} (h : Own w t s w1) (k : Below w1.heap.size w1 w2) : Own w t s w2 := ⟨h.le, h.blk.keep k, h.hb.trans (k.mono h.hb.size), h.ok⟩
/-- Due of a plan of the call's own. -/
def OwnDue (p : PS) (now : Int) (t : Nat) (w w1 : World) (r : Ending) (w' : World) : Prop :=
  ∃ a c, r = .returned (.tuple #[.bool (p.dueF now), .slice a (p.dueL now).length c]) ∧ w'.ownsRow w1.heap.size 3 1 (.slice a (p.dueL now).length c) (p.dueL now).length (nv (p.dueL now)) ∧ Own w t (p.due now) w'
theorem own_due {w w1 : World} {t : Nat} {p : PS} (now : Int) (h : Own w t p w1) : Calls Try.prog 14 #[.pointer (some ⟨t, 0, none⟩), .int .i64 now] w1 (OwnDue p now t w w1) := by
  refine (due_any p now t w1 h.blk h.ok).mono ?_
  rintro r w2 ⟨v, rfl, ho, hT⟩
  obtain ⟨a, c, rfl, -⟩ := row_slice ho
  exact ⟨a, c, rfl, ho, h.step hT (h.ok.due now)⟩
theorem own_note {w w1 : World} {t : Nat} {p : PS} (now d e s m : Int) (u : Bool) (h : Own w t p w1) : Calls Try.prog 12 #[.pointer (some ⟨t, 0, none⟩), .int .i64 now, .int .i64 d, keyV e s m, .bool u] w1 fun r w' => r = .returned (.int .i64 (if noteB now d e s m = true then 0 else 1)) ∧ Own w t (p.note now d e s m u) w' := by
  refine (note_any p now d e s m u t w1 h.blk).mono ?_
  rintro r w2 ⟨rfl, hT⟩
  exact ⟨rfl, h.step hT (h.ok.note now d e s m u)⟩
theorem next_nil (w : World) : Calls Try.prog 17 #[.pointer none] w fun r w' => r = .returned (.tuple #[.int .i64 0, .bool false]) ∧ w = w' := by
  go_enter Try.func17, Try.ntmps17
  go_wp2_with fail
  go_ret2
  exact ⟨rfl, rfl⟩
def ea : PS := (ps0 10 3).due 0
def eb : PS := ea.note 1 2 0 1 1 false
def ec : PS := eb.due 2
def ed : PS := ec.note 3 2 0 1 0 false
set_option maxRecDepth 100000 in
set_option maxHeartbeats 3200000 in
theorem awake_any (w : World) : Calls Try.prog 10 #[] w fun r w' => r = .returned (.bool true) ∧ Below w.heap.size w w' := by
  have HN := fun w1 => new_yes 10 3 w1 (by decide)
  have e1 : Kp ((ps0 10 3).dueF 0 = true ∧ ea.dueF 0 = false) := ⟨by decide, by decide⟩
  have e2 : Kp (eb.dueF 2 = false ∧ eb.dueL 2 = []) := ⟨by decide, by decide⟩
  have e3 : Kp (ed.dueF 4 = false ∧ ed.dueL 4 = [2]) := ⟨by decide, by decide⟩
  go_enter Try.func10, Try.ntmps10
  go_wp2_with fail
  refine (HN _).mono ?_
  rintro r w1 ⟨t, rfl, h1, h2, h3⟩
  have K := Kp.mk (Own.mk h1 h2 h3 (ps0_ok (by decide)))
  clear h1 h2 h3 HN
  go_wp2_with fail
  refine (own_due 0 K.out).mono ?_
  rintro r w2 ⟨a1, c1, rfl, ho, hK⟩
  rw [e1.out.1]
  have K2 : Kp (Own w t ea w2) := ⟨hK⟩
  clear ho hK K
  generalize ((ps0 10 3).dueL 0).length = n1
  go_wp2_with fail
  refine (own_note 1 2 0 1 1 false K2.out).mono ?_
  rintro r w3 ⟨rfl, hK⟩
  have K3 : Kp (Own w t eb w3) := ⟨hK⟩
  clear hK K2
  go_wp2_with fail
  refine (own_due 2 K3.out).mono ?_
  rintro r w4 ⟨a2, c2, rfl, ho, hK⟩
  rw [e2.out.1, e2.out.2]
  have K4 : Kp (Own w t ec w4) := ⟨hK⟩
  clear ho hK K3
  go_wp2_with fail
  refine (own_note 3 2 0 1 0 false K4.out).mono ?_
  rintro r w5 ⟨rfl, hK⟩
  have K5 : Kp (Own w t ed w5) := ⟨hK⟩
  clear hK K4
  go_wp2_with fail
  refine (own_due 4 K5.out).mono ?_
  rintro r w6 ⟨a3, c3, rfl, ho, hK⟩
  rw [e3.out.1]
  rw [e3.out.2] at ho ⊢
  obtain ⟨a', c', e4, e5⟩ := row_slice ho
  simp only [Value.slice.injEq] at e4
  obtain ⟨rfl, -, rfl⟩ := e4
  obtain ⟨g, rfl, hc⟩ := e5 0 (by simp)
  have K6 := Kp.mk hK.hb
  have hc' : w6.cell? ⟨g, 0, none⟩ = some (.int .i64 2) := hc
  clear ho hK K5 e5 hc
  go_wp2_with fail
  go_ret
  exact ⟨rfl, K6.out⟩
set_option maxRecDepth 100000 in
set_option maxHeartbeats 3200000 in
theorem settleNil_walk (n : Int) (w : World) (_ : (Lit.int .i64 n).wf = true) : Calls Try.prog 6 #[.int .i64 n] w fun r w' => r = .returned (.bool true) ∧ Below w.heap.size w w' := by
  go_enter Try.func6, Try.ntmps6
  go_wp2_with fail
  refine (due_nil n _).mono ?_
  rintro r w1 ⟨rfl, hb⟩
  have K := Kp.mk hb
  clear hb
  go_wp2_with fail
  refine (next_nil _).mono ?_
  rintro r w2 ⟨rfl, rfl⟩
  go_wp2_with fail
  refine (awake_any _).mono ?_
  rintro r w3 ⟨rfl, hb⟩
  have K3 := Kp.mk (K.out.trans (hb.mono K.out.size))
  clear hb K
  go_wp2_with fail
  refine (note_nil n 1 0 0 0 true _).mono ?_
  rintro r w4 ⟨rfl, hb⟩
  have K4 := Kp.mk (K3.out.trans (hb.mono K3.out.size))
  clear hb K3
  go_wp2_with fail
  refine (waits_nil _).mono ?_
  rintro r w5 ⟨rfl, rfl⟩
  go_wp2_with fail
  go_ret
  exact ⟨rfl, K4.out⟩
end Go.Proofs.Ytfnjfoconklhiaa
