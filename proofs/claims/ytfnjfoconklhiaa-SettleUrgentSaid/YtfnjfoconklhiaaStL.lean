/-
  SettleUrgent: the walk.
-/
import Derived.Test.YtfnjfoconklhiaaStK
namespace Go.Proofs.Ytfnjfoconklhiaa
open Go.RowKit

theorem own_due1 {w w1 : World} {t d : Nat} {S now e s m : Int} {u : Bool} (hd : d < 8) (h0 : 0 ≤ now ∧ now ≤ 256) (hu : u = true ∨ 1 + S ≤ now) (h : Own w t ((pa S).put d (na e s m true u)) w1) :
    Calls Try.prog 14 #[.pointer (some ⟨t, 0, none⟩), .int .i64 now] w1 fun r w' => (∃ b f g c, r = .returned (.tuple #[.bool f, .slice (some ⟨g, 0, none⟩) 1 c]) ∧ b = f ∧ w'.cell? ⟨g, 0, none⟩ = some (.int .i64 d)) ∧ Own w t ((pa S).put d (na e s m false false)) w' := by
  refine (own_due now h).mono ?_
  rintro r w2 ⟨a, c, rfl, ho, hK⟩
  obtain ⟨e1, e2⟩ := due_one (e := e) (s := s) (m := m) hd h0 hu
  rw [e1] at ho ⊢
  rw [e2] at hK
  obtain ⟨a', c', e4, e5⟩ := row_slice ho
  simp only [Value.slice.injEq] at e4
  obtain ⟨rfl, -, rfl⟩ := e4
  obtain ⟨g, rfl, hc⟩ := e5 0 (by simp)
  exact ⟨⟨_, _, g, c, rfl, rfl, hc⟩, hK⟩
theorem own_due0 {w w1 : World} {t d : Nat} {S now e s m : Int} (h0 : 0 ≤ now ∧ now ≤ 256) (hu : now < 1 + S) (h : Own w t ((pa S).put d (na e s m true false)) w1) :
    Calls Try.prog 14 #[.pointer (some ⟨t, 0, none⟩), .int .i64 now] w1 fun r w' => (∃ f a c, r = .returned (.tuple #[.bool f, .slice a 0 c])) ∧ Own w t ((pa S).put d (na e s m true false)) w' := by
  refine (own_due now h).mono ?_
  rintro r w2 ⟨a, c, rfl, ho, hK⟩
  obtain ⟨e1, e2⟩ := due_none (d := d) (e := e) (s := s) (m := m) h0 hu
  rw [e1]
  rw [e2] at hK
  exact ⟨⟨_, a, c, rfl⟩, hK⟩
theorem own_note1 {w w1 : World} {t d : Nat} {S now e s m : Int} {n : NW} {u : Bool} (hn : noteB now d e s m = true) (h : Own w t ((pa S).put d n) w1) : Calls Try.prog 12 #[.pointer (some ⟨t, 0, none⟩), .int .i64 now, .int .i64 d, keyV e s m, .bool u] w1 fun r w' => r = .returned (.int .i64 0) ∧ Own w t ((pa S).put d (n.note now e s m u)) w' := by
  refine (own_note now d e s m u h).mono ?_
  rintro r w2 ⟨rfl, hK⟩
  rw [if_pos hn, put_note n hn] at *
  exact ⟨rfl, hK⟩
theorem own_waits0 {w w1 : World} {t d : Nat} {S e s m : Int} (h : Own w t ((pa S).put d (na e s m false false)) w1) : Calls Try.prog 18 #[.pointer (some ⟨t, 0, none⟩)] w1 fun r w' => (∃ a c, r = .returned (.slice a 0 c)) ∧ Below w.heap.size w w' := by
  refine (waits_any _ t w1 h.blk).mono ?_
  rintro r w2 ⟨v, rfl, ho, hb⟩
  rw [waits_none] at ho
  obtain ⟨a, c, rfl, -⟩ := row_slice ho
  exact ⟨⟨a, c, rfl⟩, h.hb.trans (hb.mono h.hb.size)⟩
set_option maxRecDepth 100000 in
set_option maxHeartbeats 6400000 in
theorem settleUrgent_yes (x0_0 x0_1 e s m wt : Int) (d : Nat) (w : World) (hk : krB e s m = true) (hd : d < 8) (hw : 0 ≤ wt ∧ wt ≤ 255) : Calls Try.prog 5 #[.agg #[.int .i64 x0_0, .int .i64 x0_1], keyV e s m, .int .i64 d, .int .u8 wt] w fun r w' => r = .returned (.bool true) ∧ Below w.heap.size w w' := by
  obtain ⟨S, hS, hS1, hS2⟩ := settle_in x0_1
  have HN := fun w1 => new_yes 1000 S w1 (by simp [rtB]; omega)
  have HR := fun w1 => rkright_any e s m w1
  rw [hk] at HR
  have U := Kp.mk (ub_is w S e s m)
  have HD := Kp.mk hd
  have HN1 : Kp (noteB 1 d e s m = true) := ⟨by simp [noteB, tmB, hk]; omega⟩
  have HN2 : Kp (noteB (1 + wt) d e s m = true) := ⟨by simp [noteB, tmB, hk]; omega⟩
  have HOK : Kp (rtB 1000 S = true) := ⟨by simp [rtB]; omega⟩
  have HA : Kp (0 ≤ 1 + wt ∧ 1 + wt ≤ 256) := ⟨by omega⟩
  have e1 : wrap64 (1 + wt) = 1 + wt := by unfold wrap64; omega
  have e1' : IntKind.i64.wrap (1 + wt) = 1 + wt := IntWalk.i64_in _ (by omega)
  have e2 : IntKind.i64.wrap wt = wt := IntWalk.i64_in _ (by omega)
  have e3 : wrap64 wt = wt := by unfold wrap64; omega
  have hd0 : (d : Int) < 8 := by omega
  unfold UB at U
  clear hS1 hS2 hk
  go_enter Try.func5, Try.ntmps5
  go_wp2_with fail
  rw [hS]
  clear hS
  refine (HN _).mono ?_
  obtain ⟨W0, hW0⟩ : ∃ W0, W0 = (w.alloc (.cells #[.int .i64 1000, .int .i64 S] 23)).alloc (.cells #[.int .u32 e, .int .u32 s, .int .i64 m] 35) := ⟨_, rfl⟩
  rw [← hW0] at U ⊢
  clear hW0
  obtain ⟨B4, hB4⟩ : ∃ B4, B4 = w.heap.size := ⟨_, rfl⟩
  obtain ⟨B5, hB5⟩ : ∃ B5, B5 = w.heap.size + 1 := ⟨_, rfl⟩
  rintro r w1 ⟨t, rfl, h1, h2, h3⟩
  rw [← hB5, ← hB4] at U ⊢
  have HE := Kp.mk hB4
  clear hB4 hB5
  have K := Kp.mk (Own.mk h1 h2 h3 (ps0_ok HOK.out))
  have HK4 : Kp (∀ p wx, Own W0 t p wx → Blk wx B4 (.cells #[.int .i64 1000, .int .i64 S] 23) ∧ Blk wx B5 (.cells #[.int .u32 e, .int .u32 s, .int .i64 m] 35) ∧ Below B4 w wx) := ⟨fun p wx h => ⟨U.out.1.keep h.hb, U.out.2.1.keep h.hb, U.out.2.2.trans (h.hb.mono (Nat.le_of_lt U.out.1.lt))⟩⟩
  clear h1 h2 h3 HN
  go_wp2_with fail
  refine (awake_any _).mono ?_
  rintro r w2 ⟨rfl, hb⟩
  have K2 := Kp.mk (K.out.more hb)
  clear hb K
  obtain ⟨k0, k1, k2, -⟩ := (HK4.out _ _ K2.out).2.1.three
  go_wp2_with fail
  refine (HR _).mono ?_
  rintro r w3 ⟨rfl, hb⟩
  have K3 := Kp.mk (K2.out.more hb)
  clear hb K2 k0 k1 k2 HR
  go_wp2_with fail
  refine (own_due 0 K3.out).mono ?_
  rintro r w4 ⟨a1, c1, rfl, -, hK⟩
  rw [pa_is] at hK
  have K4 : Kp (Own W0 t ((pa S).put d nw0) w4) := ⟨by rw [show (pa S).put d nw0 = pa S from PS.put_self (pa S) d]; exact hK⟩
  clear hK K3
  obtain ⟨k0, k1, k2, -⟩ := (HK4.out _ _ K4.out).2.1.three
  go_wp2_with fail
  refine (kto_any e s m _).mono ?_
  rintro r w5 ⟨rfl, hb⟩
  have K5 := Kp.mk (K4.out.more hb)
  clear hb K4 k0 k1 k2
  go_wp2_with fail
  refine (own_note1 HN1.out K5.out).mono ?_
  rintro r w6 ⟨rfl, hK⟩
  rw [nw0_note] at hK
  have K6 := Kp.mk hK
  clear hK K5
  by_cases hc : 1 + S ≤ 1 + wt
  case' pos =>
    have hc' : S ≤ wt := by omega
    go_wp2_with fail
    refine (own_due1 HD.out HA.out (.inr hc) K6.out).mono ?_
    rintro r w7 ⟨⟨bf, f, g, c, rfl, -, hcell⟩, hK⟩
    have K7 := Kp.mk hK
    clear hK K6
    obtain ⟨q0, q1, -⟩ := (HK4.out _ _ K7.out).1.two
    obtain ⟨k0, k1, k2, -⟩ := (HK4.out _ _ K7.out).2.1.three
    have HF : Kp (∀ now, (na e s m false false).note now e s m true = na e s m true true) := ⟨fun now => na_note _ _ _ _ _ _ _⟩
  case' neg =>
    have hc' : wt < S := by omega
    have hc2 : 1 + wt < 1 + S := by omega
    go_wp2_with fail
    refine (own_due0 HA.out hc2 K6.out).mono ?_
    rintro r w7 ⟨⟨f, a, c, rfl⟩, hK⟩
    have K7 := Kp.mk hK
    clear hK K6
    obtain ⟨q0, q1, -⟩ := (HK4.out _ _ K7.out).1.two
    obtain ⟨k0, k1, k2, -⟩ := (HK4.out _ _ K7.out).2.1.three
    have HF : Kp (∀ now, (na e s m true false).note now e s m true = na e s m true true) := ⟨fun now => na_note _ _ _ _ _ _ _⟩
  all_goals
    go_wp2_with fail
    refine (kto_any e s m _).mono ?_
    rintro r w8 ⟨rfl, hb⟩
    have K8 := Kp.mk (K7.out.more hb)
    clear hb K7 k0 k1 k2 q0 q1
    go_wp2_with fail
    refine (own_note1 HN2.out K8.out).mono ?_
    rintro r w9 ⟨rfl, hK⟩
    rw [HF.out] at hK
    have K9 := Kp.mk hK
    clear hK K8 HF
    go_wp2_with fail
    refine (own_due1 HD.out HA.out (.inl rfl) K9.out).mono ?_
    rintro r w10 ⟨⟨bf2, f2, g2, c2, rfl, -, hcell2⟩, hK⟩
    have K10 := Kp.mk hK
    clear hK K9
    go_wp2_with fail
    refine (own_waits0 K10.out).mono ?_
    rintro r w11 ⟨⟨a9, c9, rfl⟩, hb⟩
    have K11 := Kp.mk (U.out.2.2.trans (hb.mono (Nat.le_of_lt U.out.1.lt)))
    clear hb K10
    go_wp2_with fail
    go_ret
    exact ⟨rfl, by rw [← HE.out]; exact K11.out⟩
theorem settleUrgent_walk (x0_0 x0_1 e s m d wt : Int) (w : World) (_ : (Lit.int .i64 x0_0).wf = true) (_ : (Lit.int .i64 x0_1).wf = true) (_ : (Lit.int .u32 e).wf = true) (_ : (Lit.int .u32 s).wf = true) (_ : (Lit.int .i64 m).wf = true) (_ : (Lit.int .i64 d).wf = true) (hw : (Lit.int .u8 wt).wf = true) :
    Calls Try.prog 5 #[.agg #[.int .i64 x0_0, .int .i64 x0_1], .agg #[.int .u32 e, .int .u32 s, .int .i64 m], .int .i64 d, .int .u8 wt] w fun r w' => r = .returned (.bool true) ∧ Below w.heap.size w w' := by
  have hw' : 0 ≤ wt ∧ wt ≤ 255 := by
    have h1 : IntKind.u8.min = 0 := rfl
    have h2 : IntKind.u8.max = 255 := rfl
    simp [Lit.wf, h1, h2] at hw
    omega
  cases hk : krB e s m with
  | false => exact settleUrgent_no _ _ _ _ _ _ _ w (.inl hk)
  | true =>
    by_cases hd : 0 ≤ d ∧ d < 8
    · obtain ⟨k, rfl⟩ : ∃ k : Nat, d = k := ⟨d.toNat, by omega⟩
      exact settleUrgent_yes _ _ _ _ _ _ _ w hk (by omega) hw'
    · exact settleUrgent_no _ _ _ _ _ _ _ w (.inr (by omega))
end Go.Proofs.Ytfnjfoconklhiaa
