/-
  Offer, where there is no floor, whatever is offered; the paths that a table holds.
-/
import Derived.Test.YtfpmmbbbndobiaaRbM
import Derived.Test.YtfpmmbbbndobiaaRbT
import Derived.Test.YtfpmmbbbndobiaaRbU
namespace Go.Proofs.Ytfpmmbbbndobiaa
open Go.RowKit

/-- What an offer with a path comes to: a copy of the path is kept, if the offer is. -/
def OfPostN (T : TB) (now f : Int) (x : KV) (np : Nat) (pq : List Int) (t : Nat) (w : World) (r : Ending) (w' : World) : Prop :=
  (OfPost (ofV T now f x).1 (ofV T now f x).2.1 (ofV T now f x).2.2 t w r w' ∧ ∀ a c, ofV T now f { x with pa := a, pn := np, pc := c } = ofV T now f x) ∨
  ∃ a c, OfPost (ofV T now f { x with pa := a, pn := np, pc := c }).1 (ofV T now f { x with pa := a, pn := np, pc := c }).2.1 (ofV T now f { x with pa := a, pn := np, pc := c }).2.2 t w r w' ∧ w'.ownsRow w.heap.size 48 16 (.slice a np c) np (bv pq)
theorem offers_any (T : TB) (now f : Int) (x : KV) (fl : K3) (t : Nat) (w : World) (h : Blk w t T.obj) (hwy : T.Ways) (np : Nat) (pq : List Int) (hpa : HoldsS w (.slice x.pa x.pn x.pc) np pq ∧ np ≤ 1000000) :
    Calls Try.prog 14 #[.pointer (some ⟨t, 0, none⟩), .int .i64 now, .int .i64 f, .agg (knc x).toArray, keyV fl, .bool false] w (OfPostN T now f x np pq t w) := by
  cases hv : ofOk T now f x with
  | false =>
    have e : ∀ a c, ofV T now f { x with pa := a, pn := np, pc := c } = (0, 1, T) := fun a c => by unfold ofV; rw [if_pos (show ofOk T now f { x with pa := a, pn := np, pc := c } = false from hv)]
    have e' : ofV T now f x = (0, 1, T) := by unfold ofV; rw [if_pos hv]
    refine (offer_arg T now f x fl false t w h hv).mono fun r w' hx => .inl ⟨?_, fun a c => (e a c).trans e'.symm⟩
    rw [e']
    exact hx
  | true =>
    have hd : 0 ≤ x.d ∧ x.d < 8 ∧ 0 ≤ f ∧ f < 8 := by
      unfold ofOk ndB at hv
      simp at hv
      omega
    obtain ⟨d, hxd⟩ : ∃ d : Nat, x.d = d := ⟨x.d.toNat, by omega⟩
    obtain ⟨g, rfl⟩ : ∃ g : Nat, f = g := ⟨f.toNat, by omega⟩
    have e0 : x.d.toNat = d := by omega
    have e1 : ((g : Int)).toNat = g := by omega
    have E : ∀ y : KV, y.d = x.d → y.k = x.k → ofOk T now g y = true → ofV T now g y = if (T.off (d * 8 + g)).stands = true ∧ 0 < cmpK (T.off (d * 8 + g)).kn.k x.k then (0, 27, T)
        else if now < (T.off (d * 8 + g)).until_ ∧ nwB x.k (T.off (d * 8 + g)).last = false then (0, 28, T)
        else if (T.off (d * 8 + g)).stands = true ∧ (T.off (d * 8 + g)).kn.k = x.k then (2, 0, T.putO (d * 8 + g) { T.off (d * 8 + g) with told := now })
        else (if turnUp (T.putO (d * 8 + g) (nwO now y)) d 8 ≠ g then 1 else turnedV (lkO T d) x.k, 0, (T.putO (d * 8 + g) (nwO now y)).putW d (turnUp (T.putO (d * 8 + g) (nwO now y)) d 8 : Nat)) := fun y hy hk hv => by
      unfold ofV
      rw [if_neg (by simp [hv]), hy, hk, e0, e1]
    have EX := E x rfl rfl hv
    have EY : ∀ a c, _ := fun a c => E { x with pa := a, pn := np, pc := c } rfl rfl hv
    have PUT : (¬ ((T.off (d * 8 + g)).stands = true ∧ 0 < cmpK (T.off (d * 8 + g)).kn.k x.k)) → (¬ (now < (T.off (d * 8 + g)).until_ ∧ nwB x.k (T.off (d * 8 + g)).last = false)) → (¬ ((T.off (d * 8 + g)).stands = true ∧ (T.off (d * 8 + g)).kn.k = x.k)) → ∀ r w', PutPostN T now d g x np pq t w r w' → OfPostN T now g x np pq t w r w' := fun h1 h2 h3 r w' hx => by
      obtain ⟨a, c, hx, hr⟩ := hx
      refine .inr ⟨a, c, ?_, hr⟩
      rw [EY a c, if_neg h1, if_neg h2, if_neg h3]
      exact hx
    have OLD : ((T.off (d * 8 + g)).stands = true ∧ 0 < cmpK (T.off (d * 8 + g)).kn.k x.k) → ∀ r w', OfPost 0 27 T t w r w' → OfPostN T now g x np pq t w r w' := fun h1 r w' hx => by
      refine .inl ⟨?_, fun a c => ?_⟩
      · rw [EX, if_pos h1]; exact hx
      · rw [EX, EY a c, if_pos h1, if_pos h1]
    have HOLD : (¬ ((T.off (d * 8 + g)).stands = true ∧ 0 < cmpK (T.off (d * 8 + g)).kn.k x.k)) → (now < (T.off (d * 8 + g)).until_ ∧ nwB x.k (T.off (d * 8 + g)).last = false) → ∀ r w', OfPost 0 28 T t w r w' → OfPostN T now g x np pq t w r w' := fun h1 h2 r w' hx => by
      refine .inl ⟨?_, fun a c => ?_⟩
      · rw [EX, if_neg h1, if_pos h2]; exact hx
      · rw [EX, EY a c, if_neg h1, if_pos h2, if_neg h1, if_pos h2]
    have FRESH : (¬ ((T.off (d * 8 + g)).stands = true ∧ 0 < cmpK (T.off (d * 8 + g)).kn.k x.k)) → (¬ (now < (T.off (d * 8 + g)).until_ ∧ nwB x.k (T.off (d * 8 + g)).last = false)) → ((T.off (d * 8 + g)).stands = true ∧ (T.off (d * 8 + g)).kn.k = x.k) → ∀ r w', OfPost 2 0 (T.putO (d * 8 + g) { T.off (d * 8 + g) with told := now }) t w r w' → OfPostN T now g x np pq t w r w' := fun h1 h2 h3 r w' hx => by
      refine .inl ⟨?_, fun a c => ?_⟩
      · rw [EX, if_neg h1, if_neg h2, if_pos h3]; exact hx
      · rw [EX, EY a c, if_neg h1, if_neg h2, if_pos h3, if_neg h1, if_neg h2, if_pos h3]
    clear E EX EY
    cases hst : (T.off (d * 8 + g)).stands with
    | false =>
      have n1 : ¬ ((T.off (d * 8 + g)).stands = true ∧ 0 < cmpK (T.off (d * 8 + g)).kn.k x.k) := fun hh => by rw [hst] at hh; exact absurd hh.1 (by simp)
      have n3 : ¬ ((T.off (d * 8 + g)).stands = true ∧ (T.off (d * 8 + g)).kn.k = x.k) := fun hh => by rw [hst] at hh; exact absurd hh.1 (by simp)
      by_cases hlt : now < (T.off (d * 8 + g)).until_
      · cases hnw : nwB x.k (T.off (d * 8 + g)).last with
        | false => exact (offers_hold0 T now d g x fl t w h hxd hv hwy hst hlt hnw).mono (HOLD n1 ⟨hlt, hnw⟩)
        | true => exact (offer_puts01 T now d g x fl t w h hxd hv hwy np pq hpa hst hlt hnw).mono (PUT n1 (fun hh => by rw [hnw] at hh; exact absurd hh.2 (by simp)) n3)
      · exact (offer_puts00 T now d g x fl t w h hxd hv hwy np pq hpa hst (by omega)).mono (PUT n1 (fun hh => hlt hh.1) n3)
    | true =>
      by_cases hc : 0 < cmpK (T.off (d * 8 + g)).kn.k x.k
      · exact (offers_old T now d g x fl t w h hxd hv hwy hst hc).mono (OLD ⟨hst, hc⟩)
      · have hc' : cmpK (T.off (d * 8 + g)).kn.k x.k ≤ 0 := by omega
        have n1 : ¬ ((T.off (d * 8 + g)).stands = true ∧ 0 < cmpK (T.off (d * 8 + g)).kn.k x.k) := fun hh => hc hh.2
        by_cases hlt : now < (T.off (d * 8 + g)).until_
        · cases hnw : nwB x.k (T.off (d * 8 + g)).last with
          | false => exact (offers_hold1 T now d g x fl t w h hxd hv hwy hst hc' hlt hnw).mono (HOLD n1 ⟨hlt, hnw⟩)
          | true =>
            have n2 : ¬ (now < (T.off (d * 8 + g)).until_ ∧ nwB x.k (T.off (d * 8 + g)).last = false) := fun hh => by rw [hnw] at hh; exact absurd hh.2 (by simp)
            by_cases hky : (T.off (d * 8 + g)).kn.k = x.k
            · exact (offers_fresh1 T now d g x fl t w h hxd hv hwy hst hc' hlt hnw hky).mono (FRESH n1 n2 ⟨hst, hky⟩)
            · exact (offer_puts11 T now d g x fl t w h hxd hv hwy np pq hpa hst hc' hlt hnw hky).mono (PUT n1 n2 (fun hh => hky hh.2))
        · have n2 : ¬ (now < (T.off (d * 8 + g)).until_ ∧ nwB x.k (T.off (d * 8 + g)).last = false) := fun hh => hlt hh.1
          by_cases hky : (T.off (d * 8 + g)).kn.k = x.k
          · exact (offers_fresh0 T now d g x fl t w h hxd hv hwy hst hc' (by omega) hky).mono (FRESH n1 n2 ⟨hst, hky⟩)
          · exact (offer_puts10 T now d g x fl t w h hxd hv hwy np pq hpa hst hc' (by omega) hky).mono (PUT n1 n2 (fun hh => hky hh.2))
/-- A path that lies beside the table. -/
def PathOK (w : World) (t : Nat) (x : KV) (p : List Int) : Prop := HoldsS w (.slice x.pa x.pn x.pc) x.pn p ∧ x.pn ≤ 1000000 ∧ ∀ b off e, 0 < x.pn → x.pa = some ⟨b, off, e⟩ → b ≠ t
theorem PathOK.turn {w w' : World} {t : Nat} {x : KV} {p : List Int} {o : Obj} (h : PathOK w t x p) (k : Turn t o w w') : PathOK w' t x p := by
  obtain ⟨⟨a, cap, h1, h2, h3, h4, h5⟩, h6, h7⟩ := h
  refine ⟨⟨a, cap, h1, h2, h3, h4, fun h0 => ?_⟩, h6, h7⟩
  obtain ⟨b, off, ha, hlt, hc⟩ := h5 h0
  refine ⟨b, off, ha, Nat.lt_of_lt_of_le hlt k.size, fun j hj => ?_⟩
  simp only [Value.slice.injEq] at h1
  have hne := h7 b off none h0 (h1.1.trans ha)
  exact (World.cell?_of_block (a := ⟨b, off + j, none⟩) (k.other b hlt hne)).trans (hc j hj)
theorem PathOK.keep {w w' : World} {t : Nat} {x : KV} {p : List Int} (h : PathOK w t x p) (hb : Below w.heap.size w w') : PathOK w' t x p := ⟨h.1.keep hb, h.2⟩
theorem PathOK.ofRow {w : World} {t M np : Nat} {x : KV} {p : List Int} {a : Option Addr} {c : Nat} (hb : Bytes p) (hn : np ≤ 1000000) (hl : p.length = np * 16) (hM : t < M) (h : w.ownsRow M 48 16 (.slice a np c) np (bv p)) : PathOK w t { x with pa := a, pn := np, pc := c } p := by
  refine ⟨HoldsS.ofRow (n := np) hb (show np ≤ maxLen by unfold maxLen; omega) hl h, hn, fun b off e h0 ha => ?_⟩
  rcases h.2 with ⟨e1, h0'⟩ | ⟨g, cap, cur, e1, hg, _⟩
  · exact absurd h0' (by have : 0 < np := h0; omega)
  · simp only [Value.slice.injEq] at e1
    have e2 : a = some ⟨b, off, e⟩ := ha
    rw [e1.1] at e2
    injection e2 with e2
    injection e2 with e2
    omega
end Go.Proofs.Ytfpmmbbbndobiaa
