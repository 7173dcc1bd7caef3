/-
  Offer, where there is no floor, whatever is offered without a path; the law's offer.
-/
import Derived.Test.YtfpmmbbbndobiaaRbJ
import Derived.Test.YtfpmmbbbndobiaaRbK
import Derived.Test.YtfpmmbbbndobiaaRbL
namespace Go.Proofs.Ytfpmmbbbndobiaa
open Go.RowKit

/-- What an offer comes to. -/
def ofV (T : TB) (now f : Int) (x : KV) : Int × Int × TB :=
  if ofOk T now f x = false then (0, 1, T)
  else if (T.off (x.d.toNat * 8 + f.toNat)).stands = true ∧ 0 < cmpK (T.off (x.d.toNat * 8 + f.toNat)).kn.k x.k then (0, 27, T)
  else if now < (T.off (x.d.toNat * 8 + f.toNat)).until_ ∧ nwB x.k (T.off (x.d.toNat * 8 + f.toNat)).last = false then (0, 28, T)
  else if (T.off (x.d.toNat * 8 + f.toNat)).stands = true ∧ (T.off (x.d.toNat * 8 + f.toNat)).kn.k = x.k then (2, 0, T.putO (x.d.toNat * 8 + f.toNat) { T.off (x.d.toNat * 8 + f.toNat) with told := now })
  else (if turnUp (T.putO (x.d.toNat * 8 + f.toNat) (nwO now x)) x.d.toNat 8 ≠ f.toNat then 1 else turnedV (lkO T x.d.toNat) x.k, 0, (T.putO (x.d.toNat * 8 + f.toNat) (nwO now x)).putW x.d.toNat (turnUp (T.putO (x.d.toNat * 8 + f.toNat) (nwO now x)) x.d.toNat 8 : Nat))
theorem ofPost_of {a e a' e' : Int} {T T' : TB} {t : Nat} {w : World} {r : Ending} {w' : World} (h : OfPost a e T t w r w') (h1 : a = a') (h2 : e = e') (h3 : T = T') : OfPost a' e' T' t w r w' := by subst h1 h2 h3; exact h
theorem offer_any (T : TB) (now f : Int) (x : KV) (fl : K3) (t : Nat) (w : World) (h : Blk w t T.obj) (hwy : T.Ways) (hpa : x.pa = none ∧ x.pn = 0 ∧ x.pc = 0) :
    Calls Try.prog 14 #[.pointer (some ⟨t, 0, none⟩), .int .i64 now, .int .i64 f, .agg (knc x).toArray, keyV fl, .bool false] w (OfPost (ofV T now f x).1 (ofV T now f x).2.1 (ofV T now f x).2.2 t w) := by
  cases hv : ofOk T now f x with
  | false =>
    have e : ofV T now f x = (0, 1, T) := by unfold ofV; rw [if_pos hv]
    rw [e]
    exact offer_arg T now f x fl false t w h hv
  | true =>
    have hd : 0 ≤ x.d ∧ x.d < 8 ∧ 0 ≤ f ∧ f < 8 := by
      unfold ofOk ndB at hv
      simp at hv
      omega
    obtain ⟨d, hxd⟩ : ∃ d : Nat, x.d = d := ⟨x.d.toNat, by omega⟩
    obtain ⟨g, rfl⟩ : ∃ g : Nat, f = g := ⟨f.toNat, by omega⟩
    have e0 : x.d.toNat = d := by omega
    have e1 : ((g : Int)).toNat = g := by omega
    have E : ofV T now g x = if (T.off (d * 8 + g)).stands = true ∧ 0 < cmpK (T.off (d * 8 + g)).kn.k x.k then (0, 27, T)
        else if now < (T.off (d * 8 + g)).until_ ∧ nwB x.k (T.off (d * 8 + g)).last = false then (0, 28, T)
        else if (T.off (d * 8 + g)).stands = true ∧ (T.off (d * 8 + g)).kn.k = x.k then (2, 0, T.putO (d * 8 + g) { T.off (d * 8 + g) with told := now })
        else (if turnUp (T.putO (d * 8 + g) (nwO now x)) d 8 ≠ g then 1 else turnedV (lkO T d) x.k, 0, (T.putO (d * 8 + g) (nwO now x)).putW d (turnUp (T.putO (d * 8 + g) (nwO now x)) d 8 : Nat)) := by
      unfold ofV
      rw [if_neg (by simp [hv]), e0, e1]
    rw [E]
    clear E
    cases hst : (T.off (d * 8 + g)).stands with
    | false =>
      by_cases hlt : now < (T.off (d * 8 + g)).until_
      · cases hnw : nwB x.k (T.off (d * 8 + g)).last with
        | false => exact (offer_hold0 T now d g x fl t w h hxd hv hwy hpa hst hlt hnw).mono fun r w' hx => by simpa [hlt] using hx
        | true => exact (offer_put01 T now d g x fl t w h hxd hv hwy hpa hst hlt hnw).mono fun r w' hx => ofPost_of (show OfPost _ _ _ t w r w' from hx) (by simp) (by simp) (by simp)
      · exact (offer_put00 T now d g x fl t w h hxd hv hwy hpa hst (by omega)).mono fun r w' hx => ofPost_of (show OfPost _ _ _ t w r w' from hx) (by simp [hlt]) (by simp [hlt]) (by simp [hlt])
    | true =>
      by_cases hc : 0 < cmpK (T.off (d * 8 + g)).kn.k x.k
      · exact (offer_old T now d g x fl t w h hxd hv hwy hpa hst hc).mono fun r w' hx => by simpa [hc] using hx
      · have hc' : cmpK (T.off (d * 8 + g)).kn.k x.k ≤ 0 := by omega
        by_cases hlt : now < (T.off (d * 8 + g)).until_
        · cases hnw : nwB x.k (T.off (d * 8 + g)).last with
          | false => exact (offer_hold1 T now d g x fl t w h hxd hv hwy hpa hst hc' hlt hnw).mono fun r w' hx => by simpa [hlt, hc] using hx
          | true =>
            by_cases hky : (T.off (d * 8 + g)).kn.k = x.k
            · exact (offer_fresh1 T now d g x fl t w h hxd hv hwy hpa hst hc' hlt hnw hky).mono fun r w' hx => ofPost_of hx (by have hcc : ¬ 0 < cmpK x.k x.k := hky ▸ hc; simp [hc, hky, hcc]) (by have hcc : ¬ 0 < cmpK x.k x.k := hky ▸ hc; simp [hc, hky, hcc]) (by have hcc : ¬ 0 < cmpK x.k x.k := hky ▸ hc; simp [hc, hky, hcc])
            · exact (offer_put11 T now d g x fl t w h hxd hv hwy hpa hst hc' hlt hnw hky).mono fun r w' hx => ofPost_of (show OfPost _ _ _ t w r w' from hx) (by simp [hc, hky]) (by simp [hc, hky]) (by simp [hc, hky])
        · by_cases hky : (T.off (d * 8 + g)).kn.k = x.k
          · exact (offer_fresh0 T now d g x fl t w h hxd hv hwy hpa hst hc' (by omega) hky).mono fun r w' hx => ofPost_of hx (by have hcc : ¬ 0 < cmpK x.k x.k := hky ▸ hc; simp [hlt, hc, hky, hcc]) (by have hcc : ¬ 0 < cmpK x.k x.k := hky ▸ hc; simp [hlt, hc, hky, hcc]) (by have hcc : ¬ 0 < cmpK x.k x.k := hky ▸ hc; simp [hlt, hc, hky, hcc])
          · exact (offer_put10 T now d g x fl t w h hxd hv hwy hpa hst hc' (by omega) hky).mono fun r w' hx => ofPost_of (show OfPost _ _ _ t w r w' from hx) (by simp [hlt, hc, hky]) (by simp [hlt, hc, hky]) (by simp [hlt, hc, hky])
theorem ofV_ways {T : TB} (h : T.Ways) (now f : Int) (x : KV) : (ofV T now f x).2.2.Ways ∧ (ofV T now f x).2.2.hold = T.hold ∧ (ofV T now f x).2.2.self = T.self := by
  unfold ofV
  split
  · exact ⟨h, rfl, rfl⟩
  · split
    · exact ⟨h, rfl, rfl⟩
    · split
      · exact ⟨h, rfl, rfl⟩
      · split
        · exact ⟨h, rfl, rfl⟩
        · rename_i hv _ _ _
          refine ⟨fun i hi => ?_, rfl, rfl⟩
          have hd : x.d.toNat < 8 := by
            unfold ofOk ndB at hv
            simp at hv
            omega
          unfold TB.putW
          simp only
          split
          · have h2 : ((T.putO (x.d.toNat * 8 + f.toNat) (nwO now x)).way x.d.toNat).toNat < 8 := by have := h _ hd; show (T.way x.d.toNat).toNat < 8; omega
            have := turnUp_lt h2 (Nat.le_refl 8)
            omega
          · exact h i hi
theorem built51 (d : Int) (k : K3) : Try.prog.built 51 [(0, .int .i64 d), (1, keyV k)] = some (knc (kn0 d k)).toArray := by kernel_rfl
theorem built51a (d : Int) : Try.prog.built 51 [(0, .int .i64 d)] = some (knc (kn0 d k0)).toArray := by kernel_rfl
set_option maxHeartbeats 1600000 in
theorem loffer_any (T : TB) (now f : Int) (k : K3) (t : Nat) (w : World) (h : Blk w t T.obj) (hwy : T.Ways) : Calls Try.prog 36 #[.pointer (some ⟨t, 0, none⟩), .int .i64 now, .int .i64 f, keyV k] w (OfPost (ofV T now f (kn0 2 k)).1 (ofV T now f (kn0 2 k)).2.1 (ofV T now f (kn0 2 k)).2.2 t w) := by
  have HO := fun W h1 => offer_any T now f (kn0 2 k) k0 t W h1 hwy ⟨rfl, rfl, rfl⟩
  obtain ⟨V, hV⟩ : ∃ V, V = ofV T now f (kn0 2 k) := ⟨_, rfl⟩
  obtain ⟨z, hz⟩ : ∃ z, z = (knc (kn0 2 k)).toArray := ⟨_, rfl⟩
  have HB : Kp (Try.prog.built 51 (#[(0, .int .i64 2), (1, keyV k)] : Array (Nat × Value)).toList = some z) := ⟨by rw [hz]; exact built51 2 k⟩
  rw [← hV, ← hz] at HO
  rw [← hV]
  have K0 : Kp (Blk (w.alloc (.cells (kc k).toArray 47)) t T.obj ∧ Blk (w.alloc (.cells (kc k).toArray 47)) w.heap.size (.cells (kc k).toArray 47) ∧ Below w.heap.size w (w.alloc (.cells (kc k).toArray 47))) := ⟨h.old _, Blk.new _ _, more (Below.refl _ _) _⟩
  clear hV hz h
  obtain ⟨e, s, m⟩ := k
  go_enter Try.func36, Try.ntmps36
  go_wp2_with (refine wpList_build_eq rfl 51 #[(0, .const (.int .i64 2)), (1, .tmp 13)] rfl #[(0, .int .i64 2), (1, keyV ⟨e, s, m⟩)] (by simp only [List.map_toArray, List.map_cons, List.map_nil]; rfl) z HB.out ?_)
  refine (HO _ K0.out.1).mono ?_
  rintro r w1 ⟨rfl, hT⟩
  have K1 := Kp.mk (Turn.ahead K0.out.2.2 hT)
  clear hT HO K0
  go_wp2_with fail
  go_ret2
  exact ⟨rfl, K1.out⟩
end Go.Proofs.Ytfpmmbbbndobiaa
