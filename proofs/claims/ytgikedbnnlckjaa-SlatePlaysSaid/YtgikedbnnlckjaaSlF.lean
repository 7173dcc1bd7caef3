/-
  slate.Flush, New.
-/
import Derived.Test.YtgikedbnnlckjaaSlE
namespace Go.Proofs.Ytgikedbnnlckjaa
open Go.RowKit

/-- The queue is emptied. -/
theorem SlStep.nilq {g : Nat} {v : Value} {s : SlS} {w : World} (h : SlIs w g v s) : SlStep g v (.slice none 0 0) { s with q := [] } w (w.setCell ⟨g + 1, 1, none⟩ (.slice none 0 0)) := by
  have hT : Turn (g + 1) (.cells #[.slice (some ⟨g, 0, none⟩) s.n s.n, .slice none 0 0, .int .i64 s.st, .int .i64 s.fu, .bool s.dn] 72) w (w.setCell ⟨g + 1, 1, none⟩ (.slice none 0 0)) := ((Turn.same h.b).set 1 _).as rfl
  exact ⟨hT.os, hT.tape, hT.output, hT.size, ⟨hT.blk, hT.keep h.r (by omega), World.ownsRow_nil _ _ _ _, ⟨h.k.n1, h.k.ll, h.k.lb, (fun x hx => by cases hx), h.k.sr, h.k.fr⟩⟩, fun k hk _ h2 _ => hT.other k hk h2, .inr (fun k hk => by cases hk)⟩
def flushS (s : SlS) : SlS := if s.dn then s else if stepE s = 0 then { stepS s with ls := settleL s.ls s.q, q := [] } else stepS s
def flushE (s : SlS) : Int := if s.dn then 5 else stepE s
theorem stepE_two (s : SlS) : stepE s = 0 ∨ stepE s = 5 := by
  unfold stepE
  split <;> simp
set_option maxHeartbeats 800000 in
theorem flush_any (g : Nat) (v : Value) (s : SlS) (w : World) (h : SlIs w g v s) (hst : s.st + 1 ≤ 1000000) (hq : s.q.length ≤ 1000000) :
    Calls Try.prog 17 #[slP g] w fun r w' => ∃ v', r = .returned (.int .i64 (flushE s)) ∧ SlStep g v v' (flushS s) w w' := by
  have H := Kp.mk h
  have HST := Kp.mk hst
  have HQ := Kp.mk hq
  clear h hst hq
  cases hd : s.dn with
  | true =>
    have HE : Kp (5 = flushE s ∧ flushS s = s) := ⟨by unfold flushE flushS; simp [hd]⟩
    have HD := Lib.hid hd
    clear hd
    go_enter Try.func17, Try.ntmps17
    go_wp2_with fail
    refine (powered_any g v s _ H.out).mono ?_
    rintro r w1 ⟨rfl, rfl⟩
    rw [HD.out]
    go_wp2_with fail
    go_ret
    exact ⟨v, reti HE.out.1, by rw [HE.out.2]; exact SlStep.same H.out (Below.refl _ _)⟩
  | false =>
    have HE : Kp (flushE s = stepE s ∧ flushS s = if stepE s = 0 then { stepS s with ls := settleL s.ls s.q, q := [] } else stepS s) := ⟨by unfold flushE flushS; simp [hd]⟩
    have HD := Lib.hid hd
    clear hd
    go_enter Try.func17, Try.ntmps17
    go_wp2_with fail
    refine (powered_any g v s _ H.out).mono ?_
    rintro r w1 ⟨rfl, rfl⟩
    rw [HD.out]
    go_wp2_with fail
    refine (step_any g v s _ H.out HST.out).mono ?_
    rintro r w2 ⟨rfl, h2⟩
    have HS2 := Kp.mk h2
    clear h2
    rcases stepE_two s with h0 | h0
    · have HW : Kp (0 = flushE s ∧ flushS s = { stepS s with ls := settleL (stepS s).ls (stepS s).q, q := [] }) := ⟨by rw [HE.out.1, HE.out.2, h0]; simp [stepS_q]⟩
      have HQ1 : Kp ((stepS s).q.length ≤ 1000000) := ⟨by rw [(stepS_q s).1]; exact HQ.out⟩
      rw [h0]
      clear h0 HE
      generalize stepS s = s1 at *
      obtain ⟨⟨c0, c1, c2, c3, c4⟩, -⟩ := HS2.out.is.cells
      obtain ⟨a, c, hve⟩ := HS2.out.is.slice
      rw [hve] at c1
      have HVE := Kp.mk hve
      clear hve
      go_wp2_with fail
      refine (settle_any g s1.q.length c a v s1 _ HS2.out.is (Nat.le_refl _) HQ1.out (fun _ => ⟨_, _, HVE.out⟩)).mono ?_
      rintro r w3 ⟨rfl, h3⟩
      have HS3 := Kp.mk (SlStep.trans HS2.out h3)
      have HS4 := Kp.mk (SlStep.trans HS3.out (SlStep.nilq HS3.out.is))
      have hl3 := HS3.out.is.lt
      obtain ⟨⟨d0, d1, d2, d3, d4⟩, hf⟩ := HS3.out.is.cells
      have hf1 := hf 1
      clear h3 c0 c1 c2 c3 c4 hf
      go_wp2_with fail
      go_ret
      exact ⟨_, reti HW.out.1, by rw [HW.out.2]; have := HS4.out; rw [List.take_length] at this; exact this⟩
    · have HW : Kp (5 = flushE s ∧ flushS s = stepS s) := ⟨by rw [HE.out.1, HE.out.2, h0]; simp⟩
      rw [h0]
      clear h0 HE
      go_wp2_with fail
      go_ret
      exact ⟨v, reti HW.out.1, by rw [HW.out.2]; exact HS2.out⟩
end Go.Proofs.Ytgikedbnnlckjaa
