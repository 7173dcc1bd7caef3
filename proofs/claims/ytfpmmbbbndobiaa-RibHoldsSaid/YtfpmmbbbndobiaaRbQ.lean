/-
  RibHolds: the walk.
-/
import Derived.Test.YtfpmmbbbndobiaaRbP
namespace Go.Proofs.Ytfpmmbbbndobiaa
open Go.RowKit

set_option maxRecDepth 100000 in
set_option maxHeartbeats 12800000 in
theorem ribHolds_yes (h l : Int) (k a : K3) (f b lt : Int) (w : World) (hr : rtB h l = true) (hk : krB k = true) (hb : 0 ≤ b ∧ b ≤ 65535) (hl : 0 ≤ lt ∧ lt ≤ 65535) : Calls Try.prog 6 #[.agg #[.int .i64 h, .int .i64 l], keyV k, keyV a, .int .i64 f, .int .u16 b, .int .u16 lt] w fun r w' => r = .returned (.bool true) ∧ Below w.heap.size w w' := by
  have HR := fun w1 => rkright_any k w1
  have HRA := fun w1 => rkright_any a w1
  have HNW := fun w1 => rnewer_any a k w1
  rw [hk] at HR
  have U := Kp.mk (hb3_is w h l k a)
  have HN := fun w1 => new_yes 0 h l w1 (by decide) hr
  have G := Kp.mk hr
  have GK := Kp.mk hk
  have GB : Kp (tmB b = true) := ⟨by simp [tmB]; omega⟩
  have GL : Kp (tmB (b + lt) = true) := ⟨by simp [tmB]; omega⟩
  have GZ : Kp (0 ≤ b + lt) := ⟨by omega⟩
  have GU : Kp (lt < h → b + lt < b + h) := ⟨by omega⟩
  have GV : Kp (¬ lt < h → ¬ b + lt < b + h) := ⟨by omega⟩
  have e1 : wrap64 (b + lt) = b + lt := by unfold wrap64; omega
  have e1' : IntKind.i64.wrap (b + lt) = b + lt := IntWalk.i64_in _ (by omega)
  have e2 : IntKind.i64.wrap b = b := IntWalk.i64_in _ (by omega)
  have e3 : wrap64 b = b := by unfold wrap64; omega
  have e4 : IntKind.i64.wrap lt = lt := IntWalk.i64_in _ (by omega)
  have e5 : wrap64 lt = lt := by unfold wrap64; omega
  have OF1 := fun {w0 w1 : World} {t : Nat} (H : Own w0 t (tb0 0 h l) w1) => own_of1 hk H
  have OBAD := fun {w0 w1 : World} {t : Nat} {T : TB} (D : Down h (b + h) k T) (H : Own w0 t T w1) (hf : ¬ ((1 ≤ f ∧ f < 8) ∧ krB a = true)) => own_bad GL.out hf D H
  have OHOLD := fun {w0 w1 : World} {t : Nat} {T : TB} (D : Down h (b + h) k T) (H : Own w0 t T w1) (hka : krB a = true) (hn : nwB a k = false) (hu : b + lt < b + h) => own_hold GL.out hka hn hu D H
  have ONEW := fun {w0 w1 : World} {t : Nat} {T : TB} (D : Down h (b + h) k T) (H : Own w0 t T w1) (hf : 1 ≤ f ∧ f < 8) (hka : krB a = true) (hn : ¬ (f = 1 ∧ nwB a k = false ∧ b + lt < b + h)) => own_new GL.out GZ.out hf hka hn D H
  have HC : Kp (f < 1 ∨ (¬ f < 1 ∧ 8 ≤ f) ∨ ((¬ f < 1 ∧ f < 8) ∧ krB a = false) ∨ ((¬ f < 1 ∧ f < 8) ∧ krB a = true ∧ f ≠ 1) ∨ (f = 1 ∧ krB a = true ∧ nwB a k = true) ∨ (f = 1 ∧ krB a = true ∧ nwB a k = false ∧ lt < h) ∨ (f = 1 ∧ krB a = true ∧ nwB a k = false ∧ ¬ lt < h)) := ⟨by
    cases krB a <;> cases nwB a k <;> simp <;> omega⟩
  unfold HB3 at U
  clear hr hk hb hl
  obtain ⟨B1, hB1⟩ : ∃ B, B = krB a := ⟨_, rfl⟩
  obtain ⟨B2, hB2⟩ : ∃ B, B = nwB a k := ⟨_, rfl⟩
  rw [← hB1] at HRA HC
  rw [← hB2] at HNW HC
  have GB1 := Kp.mk hB1
  have GB2 := Kp.mk hB2
  clear hB1 hB2
  obtain ⟨e, s, m⟩ := k
  obtain ⟨e', s', m'⟩ := a
  go_enter Try.func6, Try.ntmps6
  go_wp2_with fail
  refine (HN _).mono ?_
  obtain ⟨W0, hW0⟩ : ∃ W0, W0 = ((w.alloc (.cells #[.int .i64 h, .int .i64 l] 23)).alloc (.cells #[.int .u32 e, .int .u32 s, .int .i64 m] 40)).alloc (.cells #[.int .u32 e', .int .u32 s', .int .i64 m'] 40) := ⟨_, rfl⟩
  rw [← hW0] at U ⊢
  clear hW0
  obtain ⟨B4, hB4⟩ : ∃ B4, B4 = w.heap.size := ⟨_, rfl⟩
  obtain ⟨B5, hB5⟩ : ∃ B5, B5 = w.heap.size + 1 := ⟨_, rfl⟩
  obtain ⟨B6, hB6⟩ : ∃ B6, B6 = w.heap.size + 1 + 1 := ⟨_, rfl⟩
  rintro r w1 ⟨t, rfl, h1, h2, h3⟩
  rw [← hB6, ← hB5, ← hB4] at U ⊢
  have HE := Kp.mk hB4
  clear hB4 hB5 hB6
  have K := Kp.mk (Own.mk h1 h2 h3 (tb0_ways 0 h l))
  have HK4 : Kp (∀ T wx, Own W0 t T wx → Blk wx B4 (.cells #[.int .i64 h, .int .i64 l] 23) ∧ Blk wx B5 (.cells #[.int .u32 e, .int .u32 s, .int .i64 m] 40) ∧ Blk wx B6 (.cells #[.int .u32 e', .int .u32 s', .int .i64 m'] 40) ∧ Below B4 w wx) := ⟨fun T wx h => ⟨U.out.1.keep h.hb, U.out.2.1.keep h.hb, U.out.2.2.1.keep h.hb, U.out.2.2.2.trans (h.hb.mono (Nat.le_of_lt U.out.1.lt))⟩⟩
  clear h1 h2 h3 HN U
  go_wp2_with fail
  refine (awake_any _).mono ?_
  rintro r w2 ⟨rfl, hb⟩
  have K2 := Kp.mk (K.out.more hb)
  clear hb K
  obtain ⟨k0, k1, k2, -⟩ := (HK4.out _ _ K2.out).2.1.three
  go_wp2_with fail
  refine (HR _).mono ?_
  rintro r w3 ⟨rfl, hb⟩
  have K3 := Kp.mk (K2.out.more hb)
  clear hb K2 k0 k1 k2 HR
  obtain ⟨k0, k1, k2, -⟩ := (HK4.out _ _ K3.out).2.1.three
  go_wp2_with fail
  refine (kto_any ⟨e, s, m⟩ _).mono ?_
  rintro r w4 ⟨rfl, hb⟩
  have K4 := Kp.mk (K3.out.more hb)
  clear hb K3 k0 k1 k2
  go_wp2_with fail
  refine (OF1 K4.out).mono ?_
  rintro r w5 ⟨rfl, hK⟩
  have K5 := Kp.mk hK
  clear hK K4 OF1
  go_wp2_with fail
  refine (own_break1 G.out GB.out K5.out).mono ?_
  rintro r w6 ⟨⟨a6, c6, rfl⟩, T6, hD, hK⟩
  have K6 := Kp.mk hK
  have D6 := Kp.mk hD
  clear hK hD K5
  go_wp2_with fail
  refine (own_valid D6.out K6.out).mono ?_
  rintro r w7 ⟨rfl, hK⟩
  have K7 := Kp.mk hK
  clear hK K6
  go_wp2_with fail
  refine (own_break2 G.out GB.out D6.out K7.out).mono ?_
  rintro r w8 ⟨⟨a8, c8, rfl⟩, T8, hD, hK⟩
  have K8 := Kp.mk hK
  have D8 := Kp.mk hD
  clear hK hD K7 D6
  obtain ⟨k0, k1, k2, -⟩ := (HK4.out _ _ K8.out).2.2.1.three
  go_wp2_with fail
  refine (kto_any ⟨e', s', m'⟩ _).mono ?_
  rintro r w9 ⟨rfl, hb⟩
  have K9 := Kp.mk (K8.out.more hb)
  clear hb K8 k0 k1 k2
  go_wp2_with fail
  rcases HC.out with c | ⟨c, c'⟩ | ⟨c, c'⟩ | ⟨c, c', c2⟩ | ⟨c, c', c2⟩ | ⟨c, c', c2, c3⟩ | ⟨c, c', c2, c3⟩
  · refine (OBAD D8.out K9.out (by omega)).mono ?_
    rintro r w10 ⟨rfl, hK⟩
    have K10 := Kp.mk (HK4.out _ _ hK).2.2.2
    clear hK K9 HC
    go_wp2_with fail
    go_ret
    exact ⟨rfl, by rw [← HE.out]; exact K10.out⟩
  · refine (OBAD D8.out K9.out (by omega)).mono ?_
    rintro r w10 ⟨rfl, hK⟩
    have K10 := Kp.mk (HK4.out _ _ hK).2.2.2
    clear hK K9 HC
    go_wp2_with fail
    go_ret
    exact ⟨rfl, by rw [← HE.out]; exact K10.out⟩
  · subst c'
    refine (OBAD D8.out K9.out (by rw [← GB1.out]; simp)).mono ?_
    rintro r w10 ⟨rfl, hK⟩
    have K10 := Kp.mk hK
    clear hK K9 HC
    obtain ⟨k0, k1, k2, -⟩ := (HK4.out _ _ K10.out).2.2.1.three
    obtain ⟨c0, c1⟩ := c
    have c1' : ¬ 8 ≤ f := by omega
    go_wp2_with fail
    refine (HRA _).mono ?_
    rintro r w11 ⟨rfl, hb⟩
    have K11 := Kp.mk (HK4.out _ _ (K10.out.more hb)).2.2.2
    clear hb K10 k0 k1 k2
    go_wp2_with fail
    go_ret
    exact ⟨rfl, by rw [← HE.out]; exact K11.out⟩
  · subst c'
    refine (ONEW D8.out K9.out (by omega) (by rw [← GB1.out]) (fun hh => c2 hh.1)).mono ?_
    rintro r w10 ⟨rfl, T10, hK⟩
    have K10 := Kp.mk hK
    clear hK K9 HC
    obtain ⟨k0, k1, k2, -⟩ := (HK4.out _ _ K10.out).2.2.1.three
    obtain ⟨c0, c1⟩ := c
    have c1' : ¬ 8 ≤ f := by omega
    go_wp2_with fail
    refine (HRA _).mono ?_
    rintro r w11 ⟨rfl, hb⟩
    have K11 := Kp.mk (HK4.out _ _ (K10.out.more hb)).2.2.2
    clear hb K10 k0 k1 k2
    go_wp2_with fail
    go_ret
    exact ⟨rfl, by rw [← HE.out]; exact K11.out⟩
  · subst c c' c2
    refine (ONEW D8.out K9.out (by omega) (by rw [← GB1.out]) (fun hh => by rw [← GB2.out] at hh; simp at hh)).mono ?_
    rintro r w10 ⟨rfl, T10, hK⟩
    have K10 := Kp.mk hK
    clear hK K9 HC
    obtain ⟨k0, k1, k2, -⟩ := (HK4.out _ _ K10.out).2.2.1.three
    go_wp2_with fail
    refine (HRA _).mono ?_
    rintro r w11 ⟨rfl, hb⟩
    have K11 := Kp.mk (K10.out.more hb)
    clear hb K10 k0 k1 k2
    obtain ⟨k0, k1, k2, -⟩ := (HK4.out _ _ K11.out).2.2.1.three
    obtain ⟨j0, j1, j2, -⟩ := (HK4.out _ _ K11.out).2.1.three
    go_wp2_with fail
    refine (HNW _).mono ?_
    rintro r w12 ⟨rfl, hb⟩
    have K12 := Kp.mk (HK4.out _ _ (K11.out.more hb)).2.2.2
    clear hb K11 k0 k1 k2 j0 j1 j2
    go_wp2_with fail
    go_ret
    exact ⟨rfl, by rw [← HE.out]; exact K12.out⟩
  · subst c c' c2
    refine (OHOLD D8.out K9.out (by rw [← GB1.out]) (by rw [← GB2.out]) (GU.out c3)).mono ?_
    rintro r w10 ⟨rfl, hK⟩
    have K10 := Kp.mk hK
    clear hK K9 HC
    obtain ⟨k0, k1, k2, -⟩ := (HK4.out _ _ K10.out).2.2.1.three
    go_wp2_with fail
    refine (HRA _).mono ?_
    rintro r w11 ⟨rfl, hb⟩
    have K11 := Kp.mk (K10.out.more hb)
    clear hb K10 k0 k1 k2
    obtain ⟨k0, k1, k2, -⟩ := (HK4.out _ _ K11.out).2.2.1.three
    obtain ⟨j0, j1, j2, -⟩ := (HK4.out _ _ K11.out).2.1.three
    go_wp2_with fail
    refine (HNW _).mono ?_
    rintro r w12 ⟨rfl, hb⟩
    have K12 := Kp.mk (K11.out.more hb)
    clear hb K11 k0 k1 k2 j0 j1 j2
    obtain ⟨q0, q1, -⟩ := (HK4.out _ _ K12.out).1.two
    go_wp2_with fail
    refine (own_valid D8.out K12.out).mono ?_
    rintro r w13 ⟨rfl, hK⟩
    have K13 := Kp.mk (HK4.out _ _ hK).2.2.2
    clear hK K12 q0 q1
    go_wp2_with fail
    go_ret
    exact ⟨rfl, by rw [← HE.out]; exact K13.out⟩
  · subst c c' c2
    refine (ONEW D8.out K9.out (by omega) (by rw [← GB1.out]) (fun hh => by have := GV.out c3; have := hh.2.2; omega)).mono ?_
    rintro r w10 ⟨rfl, T10, hK⟩
    have K10 := Kp.mk hK
    clear hK K9 HC
    obtain ⟨k0, k1, k2, -⟩ := (HK4.out _ _ K10.out).2.2.1.three
    go_wp2_with fail
    refine (HRA _).mono ?_
    rintro r w11 ⟨rfl, hb⟩
    have K11 := Kp.mk (K10.out.more hb)
    clear hb K10 k0 k1 k2
    obtain ⟨k0, k1, k2, -⟩ := (HK4.out _ _ K11.out).2.2.1.three
    obtain ⟨j0, j1, j2, -⟩ := (HK4.out _ _ K11.out).2.1.three
    go_wp2_with fail
    refine (HNW _).mono ?_
    rintro r w12 ⟨rfl, hb⟩
    have K12 := Kp.mk (K11.out.more hb)
    clear hb K11 k0 k1 k2 j0 j1 j2
    obtain ⟨q0, q1, -⟩ := (HK4.out _ _ K12.out).1.two
    have K13 := Kp.mk (HK4.out _ _ K12.out).2.2.2
    go_wp2_with fail
    go_ret
    exact ⟨rfl, by rw [← HE.out]; exact K13.out⟩
theorem u16_in {x : Int} (h : (Lit.int .u16 x).wf = true) : 0 ≤ x ∧ x ≤ 65535 := by
  have h1 : IntKind.u16.min = 0 := rfl
  have h2 : IntKind.u16.max = 65535 := rfl
  simp [Lit.wf, h1, h2] at h
  omega
theorem ribHolds_walk (h l e s m e' s' m' f b lt : Int) (w : World) (_ : (Lit.int .i64 h).wf = true) (_ : (Lit.int .i64 l).wf = true) (_ : (Lit.int .u32 e).wf = true) (_ : (Lit.int .u32 s).wf = true) (_ : (Lit.int .i64 m).wf = true) (_ : (Lit.int .u32 e').wf = true) (_ : (Lit.int .u32 s').wf = true) (_ : (Lit.int .i64 m').wf = true) (_ : (Lit.int .i64 f).wf = true) (hb : (Lit.int .u16 b).wf = true) (hl : (Lit.int .u16 lt).wf = true) :
    Calls Try.prog 6 #[.agg #[.int .i64 h, .int .i64 l], .agg #[.int .u32 e, .int .u32 s, .int .i64 m], .agg #[.int .u32 e', .int .u32 s', .int .i64 m'], .int .i64 f, .int .u16 b, .int .u16 lt] w fun r w' => r = .returned (.bool true) ∧ Below w.heap.size w w' := by
  cases hr : rtB h l with
  | false => exact ribHolds_no h l ⟨e, s, m⟩ ⟨e', s', m'⟩ f b lt w (.inl hr)
  | true =>
    cases hk : krB ⟨e, s, m⟩ with
    | false => exact ribHolds_no h l ⟨e, s, m⟩ ⟨e', s', m'⟩ f b lt w (.inr hk)
    | true => exact ribHolds_yes h l ⟨e, s, m⟩ ⟨e', s', m'⟩ f b lt w hr hk (u16_in hb) (u16_in hl)
end Go.Proofs.Ytfpmmbbbndobiaa
