/-
  In and the document's In go together: plain facts on their bytes, places and errors.
-/
import Derived.Test.YtlgcpfeaecpocaaRefE
import Derived.Test.YtlgcpfeaecpocaaInD
namespace Go.Proofs.Ytlgcpfeaecpocaa
open Go.RowKit

structure Rel (l : List Int) (e : Int) (B : List Int) (at' : Nat) : Prop where
  ok : e = 0 → l = B.drop at'
  bad : e ≠ 0 → l = []

theorem Rel.next {l B : List Int} {e : Int} {at' : Nat} (h : Rel l e B at') (k : Nat) : nextP l e k = rawP B at' e k ∧ nextE l e k = rawE B at' e k ∧ Rel (nextL l e k) (rawE B at' e k) B (rawA B at' e k) := by
  by_cases he : e = 0
  · have hl := h.ok he
    have hlen : l.length = B.length - at' := by rw [hl, List.length_drop]
    by_cases hk : k ≤ l.length
    · have hk2 : k ≤ B.length - at' := by omega
      refine ⟨?_, ?_, ?_⟩
      · unfold nextP rawP; rw [if_pos ⟨he, hk⟩, if_pos ⟨he, hk2⟩, hl]
      · unfold nextE rawE; rw [if_neg (by omega), if_neg (by omega)]
      · have h1 : rawE B at' e k = 0 := by unfold rawE; rw [if_neg (by omega), he]
        rw [h1]
        refine ⟨fun _ => ?_, fun h => absurd rfl h⟩
        unfold nextL rawA
        rw [if_pos ⟨he, hk⟩, if_pos ⟨he, hk2⟩, hl, List.drop_drop]
    · have hk2 : ¬ k ≤ B.length - at' := by omega
      refine ⟨?_, ?_, ?_⟩
      · unfold nextP rawP; rw [if_neg (by omega), if_neg (by omega)]
      · unfold nextE rawE; rw [if_pos ⟨he, by omega⟩, if_pos ⟨he, by omega⟩]
      · have h1 : rawE B at' e k = 9 := by unfold rawE; rw [if_pos ⟨he, by omega⟩]
        rw [h1]
        refine ⟨fun h => absurd h (by decide), fun _ => ?_⟩
        unfold nextL
        rw [if_neg (by omega)]
  · refine ⟨?_, ?_, ?_⟩
    · unfold nextP rawP; rw [if_neg (by omega), if_neg (by omega)]
    · unfold nextE rawE; rw [if_neg (by omega), if_neg (by omega)]
    · have h1 : rawE B at' e k = e := by unfold rawE; rw [if_neg (by omega)]
      rw [h1]
      refine ⟨fun h => absurd h he, fun _ => ?_⟩
      unfold nextL
      rw [if_neg (by omega)]
theorem Rel.fail {l B : List Int} {e : Int} {at' : Nat} (h : Rel l e B at') (f : Int) : Rel (failL l e f) (failE e f) B at' := by
  unfold failL failE
  by_cases hc : e = 0 ∧ f ≠ 0
  · rw [if_pos hc, if_pos hc]
    exact ⟨fun h => absurd h hc.2, fun _ => rfl⟩
  · rw [if_neg hc, if_neg hc]
    exact h
theorem Rel.left {l B : List Int} {e : Int} {at' : Nat} (h : Rel l e B at') : l.length = rleft B at' e := by
  unfold rleft
  by_cases he : e = 0
  · rw [if_pos he, h.ok he, List.length_drop]
  · rw [if_neg he, h.bad he]; rfl

/-- Many, against the document's number. -/
theorem Rel.many {l B : List Int} {e : Int} {at' : Nat} (h : Rel l e B at') (k : Nat) (hk : k ≤ 2) (hb : Bytes l) (most : Int) :
    manyB l e k most = decide ((if most < 0 then 0 else most) < numOf (rawP B at' e k)) := by
  unfold manyB
  rw [(h.next k).1]
/-- Behind an error nothing is told. -/
theorem rawP_bad {B : List Int} {at' : Nat} {e : Int} {k : Nat} (h : rawE B at' e k ≠ 0) : rawP B at' e k = [] := by
  unfold rawP
  unfold rawE at h
  split at h <;> rw [if_neg (by omega)]
theorem numOf_pos_ok {B : List Int} {at' : Nat} {e : Int} {k : Nat} {most : Int} (h : decide ((if most < 0 then 0 else most) < numOf (rawP B at' e k)) = true) : rawE B at' e k = 0 := by
  false_or_by_contra
  rename_i hne
  rw [rawP_bad hne, numOf_nil] at h
  have := of_decide_eq_true h
  split at this <;> omega

theorem rawA_fit {B : List Int} {at' k : Nat} (h : k ≤ B.length - at') : rawA B at' 0 k = at' + k := if_pos ⟨rfl, h⟩
theorem rawE_fit {B : List Int} {at' k : Nat} (h : k ≤ B.length - at') : rawE B at' 0 k = 0 := if_neg (by omega)
theorem rawE_short {B : List Int} {at' k : Nat} (h : B.length - at' < k) : rawE B at' 0 k = 9 := if_pos ⟨rfl, h⟩
theorem rawE_err {B : List Int} {at' k : Nat} {e : Int} (h : e ≠ 0) : rawE B at' e k = e := if_neg (by omega)
theorem rawP_fit {B : List Int} {at' k : Nat} (h : k ≤ B.length - at') : rawP B at' 0 k = (B.drop at').take k := if_pos ⟨rfl, h⟩
theorem rawP_short {B : List Int} {at' k : Nat} (h : B.length - at' < k) : rawP B at' 0 k = [] := if_neg (by omega)
theorem rawP_err {B : List Int} {at' k : Nat} {e : Int} (h : e ≠ 0) : rawP B at' e k = [] := if_neg (by omega)

theorem Rel.blob {l B : List Int} {e : Int} {at' : Nat} (h : Rel l e B at') (hb : Bytes l) (hB : Bytes B) (most : Int) :
    blobP l e most = rblobP B at' e most ∧ blobE l e most = rblobE B at' e most ∧ Rel (blobL l e most) (rblobE B at' e most) B (rblobA B at' e most) := by
  obtain ⟨hp, he2, hr⟩ := h.next 2
  obtain ⟨hc1, hc2⟩ := cnt2_is hB at' e
  obtain ⟨m, hmm⟩ : ∃ m : Int, (if 4096 < most then 4096 else most) = m := ⟨_, rfl⟩
  have hm := h.many 2 (by omega) hb m
  have hov : manyB l e 2 m = decide (over most (cnt2 B at' e) = true ∨ 4096 < cnt2 B at' e) := by
    rw [hm, hc1]
    unfold over
    rw [← hmm, Bool.eq_iff_iff, decide_eq_true_eq, decide_eq_true_eq, decide_eq_true_eq]
    (repeat' split) <;> omega
  have hn0 : rawE B at' e 2 ≠ 0 → cnt2 B at' e = 0 := fun hz => by unfold cnt2; rw [rawP_bad hz]; rfl
  have hov0 : manyB l e 2 m = true → rawE B at' e 2 = 0 := fun ho => numOf_pos_ok (by rw [← hm]; exact ho)
  have hR : manyR l e 2 m = (if manyB l e 2 m then (0 : Int) else ((cnt2 B at' e : Nat) : Int)) := by unfold manyR; rw [hp, hc1]
  have hL : manyL l e 2 m = if manyB l e 2 m then failL (nextL l e 2) (rawE B at' e 2) 8 else nextL l e 2 := by unfold manyL; rw [he2]
  have hE : manyE l e 2 m = if manyB l e 2 m then failE (rawE B at' e 2) 8 else rawE B at' e 2 := by unfold manyE; rw [he2]
  have hF : rblobF B at' e most = if rawE B at' e 2 = 0 ∧ (over most (cnt2 B at' e) = true ∨ 4096 < cnt2 B at' e) then 8 else rawE B at' e 2 := rfl
  unfold blobP blobE blobL blobN rblobP rblobE rblobA
  rw [hmm]
  generalize manyB l e 2 m = mB at *
  generalize rblobF B at' e most = f at *
  generalize rawE B at' e 2 = e2 at *
  generalize rawA B at' e 2 = a2 at *
  generalize cnt2 B at' e = n at *
  generalize manyR l e 2 m = mR at *
  generalize manyL l e 2 m = mL at *
  generalize manyE l e 2 m = mE at *
  generalize nextL l e 2 = l2 at *
  cases mB with
  | true =>
    have hz := hov0 rfl
    subst hz
    have hc := of_decide_eq_true hov.symm
    rw [if_pos ⟨rfl, hc⟩] at hF
    rw [if_pos rfl] at hR hL hE
    rw [failL_yes rfl (by decide)] at hL
    rw [failE_yes rfl (by decide)] at hE
    rw [hR, hL, hE, hF]
    rw [rawP_err (by decide), rawE_err (by decide)]
    refine ⟨?_, ?_, fun h => absurd h (by decide), fun _ => ?_⟩
    · unfold nextP; rw [if_neg (by simp)]
    · unfold nextE; rw [if_neg (by simp)]
    · unfold nextL; rw [if_neg (by simp)]
  | false =>
    have hc := of_decide_eq_false hov.symm
    rw [if_neg (by rintro ⟨_, h⟩; exact hc h)] at hF
    rw [if_neg (by decide)] at hR hL hE
    rw [hR, hL, hE, hF, Int.toNat_natCast]
    exact ⟨(hr.next n).1, (hr.next n).2.1, (hr.next n).2.2⟩
end Go.Proofs.Ytlgcpfeaecpocaa
