/-
  Offer against a floor.
-/
import Derived.Test.YtfpmmbbbndobiaaRfD
import Derived.Test.YtfpmmbbbndobiaaRfE
import Derived.Test.YtfpmmbbbndobiaaRfL
import Derived.Test.YtfpmmbbbndobiaaRbV
namespace Go.Proofs.Ytfpmmbbbndobiaa
open Go.RowKit

theorem offersF_any (T : TB) (now f : Int) (x : KV) (fl : K3) (hfl : cmpK fl x.k ≤ 0) (t : Nat) (w : World) (h : Blk w t T.obj) (hwy : T.Ways) (np : Nat) (pq : List Int) (hpa : HoldsS w (.slice x.pa x.pn x.pc) np pq ∧ np ≤ 1000000) :
    Calls Try.prog 14 #[.pointer (some ⟨t, 0, none⟩), .int .i64 now, .int .i64 f, .agg (knc x).toArray, keyV fl, .bool true] w (OfPostN T now f x np pq t w) := by
  cases hv : ofOk T now f x with
  | false =>
    have e : ∀ a c, ofV T now f { x with pa := a, pn := np, pc := c } = (0, 1, T) := fun a c => by unfold ofV; rw [if_pos (show ofOk T now f { x with pa := a, pn := np, pc := c } = false from hv)]
    have e' : ofV T now f x = (0, 1, T) := by unfold ofV; rw [if_pos hv]
    refine (offer_arg T now f x fl true t w h hv).mono fun r w' hx => .inl ⟨?_, fun a c => (e a c).trans e'.symm⟩
    rw [e']
    exact hx
  | true =>
    have hd : 0 ≤ x.d ∧ x.d < 8 ∧ 0 ≤ f ∧ f < 8 := by
      unfold ofOk ndB at hv
      simp at hv
      omega
    obtain ⟨d, hxd⟩ : ∃ d : Nat, x.d = d := ⟨x.d.toNat, by omega⟩
    obtain ⟨g, rfl⟩ : ∃ g : Nat, f = g := ⟨f.toNat, by omega⟩
    have e0 : x.d.toNat = d := by omega
    have e1 : ((g : Int)).toNat = g := by omega
    have E : ∀ y : KV, y.d = x.d → y.k = x.k → ofOk T now g y = true → ofV T now g y = if (T.off (d * 8 + g)).stands = true ∧ 0 < cmpK (T.off (d * 8 + g)).kn.k x.k then (0, 27, T)
        else if now < (T.off (d * 8 + g)).until_ ∧ nwB x.k (T.off (d * 8 + g)).last = false then (0, 28, T)
        else if (T.off (d * 8 + g)).stands = true ∧ (T.off (d * 8 + g)).kn.k = x.k then (2, 0, T.putO (d * 8 + g) { T.off (d * 8 + g) with told := now })
        else (if turnUp (T.putO (d * 8 + g) (nwO now y)) d 8 ≠ g then 1 else turnedV (lkO T d) x.k, 0, (T.putO (d * 8 + g) (nwO now y)).putW d (turnUp (T.putO (d * 8 + g) (nwO now y)) d 8 : Nat)) := fun y hy hk hv => by
      unfold ofV
      rw [if_neg (by simp [hv]), hy, hk, e0, e1]
    have EX := E x rfl rfl hv
    have EY : ∀ a c, _ := fun a c => E { x with pa := a, pn := np, pc := c } rfl rfl hv
    have PUT : (¬ ((T.off (d * 8 + g)).stands = true ∧ 0 < cmpK (T.off (d * 8 + g)).kn.k x.k)) → (¬ (now < (T.off (d * 8 + g)).until_ ∧ nwB x.k (T.off (d * 8 + g)).last = false)) → (¬ ((T.off (d * 8 + g)).stands = true ∧ (T.off (d * 8 + g)).kn.k = x.k)) → ∀ r w', PutPostN T now d g x np pq t w r w' → OfPostN T now g x np pq t w r w' := fun h1 h2 h3 r w' hx => by
      obtain ⟨a, c, hx, hr⟩ := hx
      refine .inr ⟨a, c, ?_, hr⟩
      rw [EY a c, if_neg h1, if_neg h2, if_neg h3]
      exact hx
    have OLD : ((T.off (d * 8 + g)).stands = true ∧ 0 < cmpK (T.off (d * 8 + g)).kn.k x.k) → ∀ r w', OfPost 0 27 T t w r w' → OfPostN T now g x np pq t w r w' := fun h1 r w' hx => by
      refine .inl ⟨?_, fun a c => ?_⟩
      · rw [EX, if_pos h1]; exact hx
      · rw [EX, EY a c, if_pos h1, if_pos h1]
    have HOLD : (¬ ((T.off (d * 8 + g)).stands = true ∧ 0 < cmpK (T.off (d * 8 + g)).kn.k x.k)) → (now < (T.off (d * 8 + g)).until_ ∧ nwB x.k (T.off (d * 8 + g)).last = false) → ∀ r w', OfPost 0 28 T t w r w' → OfPostN T now g x np pq t w r w' := fun h1 h2 r w' hx => by
      refine .inl ⟨?_, fun a c => ?_⟩
      · rw [EX, if_neg h1, if_pos h2]; exact hx
      · rw [EX, EY a c, if_neg h1, if_pos h2, if_neg h1, if_pos h2]
    have FRESH : (¬ ((T.off (d * 8 + g)).stands = true ∧ 0 < cmpK (T.off (d * 8 + g)).kn.k x.k)) → (¬ (now < (T.off (d * 8 + g)).until_ ∧ nwB x.k (T.off (d * 8 + g)).last = false)) → ((T.off (d * 8 + g)).stands = true ∧ (T.off (d * 8 + g)).kn.k = x.k) → ∀ r w', OfPost 2 0 (T.putO (d * 8 + g) { T.off (d * 8 + g) with told := now }) t w r w' → OfPostN T now g x np pq t w r w' := fun h1 h2 h3 r w' hx => by
      refine .inl ⟨?_, fun a c => ?_⟩
      · rw [EX, if_neg h1, if_neg h2, if_pos h3]; exact hx
      · rw [EX, EY a c, if_neg h1, if_neg h2, if_pos h3, if_neg h1, if_neg h2, if_pos h3]
    clear E EX EY
    cases hst : (T.off (d * 8 + g)).stands with
    | false =>
      have n1 : ¬ ((T.off (d * 8 + g)).stands = true ∧ 0 < cmpK (T.off (d * 8 + g)).kn.k x.k) := fun hh => by rw [hst] at hh; exact absurd hh.1 (by simp)
      have n3 : ¬ ((T.off (d * 8 + g)).stands = true ∧ (T.off (d * 8 + g)).kn.k = x.k) := fun hh => by rw [hst] at hh; exact absurd hh.1 (by simp)
      by_cases hlt : now < (T.off (d * 8 + g)).until_
      · cases hnw : nwB x.k (T.off (d * 8 + g)).last with
        | false => exact (offers_hold0F T now d g x fl hfl t w h hxd hv hwy hst hlt hnw).mono (HOLD n1 ⟨hlt, hnw⟩)
        | true => exact (offer_puts01F T now d g x fl hfl t w h hxd hv hwy np pq hpa hst hlt hnw).mono (PUT n1 (fun hh => by rw [hnw] at hh; exact absurd hh.2 (by simp)) n3)
      · exact (offer_puts00F T now d g x fl hfl t w h hxd hv hwy np pq hpa hst (by omega)).mono (PUT n1 (fun hh => hlt hh.1) n3)
    | true =>
      by_cases hc : 0 < cmpK (T.off (d * 8 + g)).kn.k x.k
      · exact (offers_oldF T now d g x fl hfl t w h hxd hv hwy hst hc).mono (OLD ⟨hst, hc⟩)
      · have hc' : cmpK (T.off (d * 8 + g)).kn.k x.k ≤ 0 := by omega
        have n1 : ¬ ((T.off (d * 8 + g)).stands = true ∧ 0 < cmpK (T.off (d * 8 + g)).kn.k x.k) := fun hh => hc hh.2
        by_cases hlt : now < (T.off (d * 8 + g)).until_
        · cases hnw : nwB x.k (T.off (d * 8 + g)).last with
          | false => exact (offers_hold1F T now d g x fl hfl t w h hxd hv hwy hst hc' hlt hnw).mono (HOLD n1 ⟨hlt, hnw⟩)
          | true =>
            have n2 : ¬ (now < (T.off (d * 8 + g)).until_ ∧ nwB x.k (T.off (d * 8 + g)).last = false) := fun hh => by rw [hnw] at hh; exact absurd hh.2 (by simp)
            by_cases hky : (T.off (d * 8 + g)).kn.k = x.k
            · exact (offers_fresh1F T now d g x fl hfl t w h hxd hv hwy hst hc' hlt hnw hky).mono (FRESH n1 n2 ⟨hst, hky⟩)
            · exact (offer_puts11F T now d g x fl hfl t w h hxd hv hwy np pq hpa hst hc' hlt hnw hky).mono (PUT n1 n2 (fun hh => hky hh.2))
        · have n2 : ¬ (now < (T.off (d * 8 + g)).until_ ∧ nwB x.k (T.off (d * 8 + g)).last = false) := fun hh => hlt hh.1
          by_cases hky : (T.off (d * 8 + g)).kn.k = x.k
          · exact (offers_fresh0F T now d g x fl hfl t w h hxd hv hwy hst hc' (by omega) hky).mono (FRESH n1 n2 ⟨hst, hky⟩)
          · exact (offer_puts10F T now d g x fl hfl t w h hxd hv hwy np pq hpa hst hc' (by omega) hky).mono (PUT n1 n2 (fun hh => hky hh.2))
/-- What lies below the floor is told to be old, and changes nothing; what may not be, neither. -/
theorem offersL_any (T : TB) (now f : Int) (x : KV) (fl : K3) (hfl : 0 < cmpK fl x.k) (t : Nat) (w : World) (h : Blk w t T.obj) (hwy : T.Ways) :
    Calls Try.prog 14 #[.pointer (some ⟨t, 0, none⟩), .int .i64 now, .int .i64 f, .agg (knc x).toArray, keyV fl, .bool true] w (fun r w' => ∃ e, OfPost 0 e T t w r w') := by
  cases hv : ofOk T now f x with
  | false => exact (offer_arg T now f x fl true t w h hv).mono fun r w' hx => ⟨_, hx⟩
  | true =>
    have hd : 0 ≤ x.d ∧ x.d < 8 ∧ 0 ≤ f ∧ f < 8 := by
      unfold ofOk ndB at hv
      simp at hv
      omega
    obtain ⟨d, hxd⟩ : ∃ d : Nat, x.d = d := ⟨x.d.toNat, by omega⟩
    obtain ⟨g, rfl⟩ : ∃ g : Nat, f = g := ⟨f.toNat, by omega⟩
    exact (offers_lowF T now d g x fl hfl t w h hxd hv hwy).mono fun r w' hx => ⟨_, hx⟩
end Go.Proofs.Ytfpmmbbbndobiaa
