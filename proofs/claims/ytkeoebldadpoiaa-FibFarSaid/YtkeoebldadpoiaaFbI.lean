/-
  FibDiffs: the walk.
-/
import Derived.Test.YtkeoebldadpoiaaFbH
import Derived.Test.YtkeoebldadpoiaaFbD
namespace Go.Proofs.Ytkeoebldadpoiaa
open Go.RowKit

theorem ofRowH {w : World} {B : Nat} {e : TypeId} {v : Value} {l : List H3} (h : w.ownsRow B e 3 v l.length (hcs l)) : HoldsF hc 3 w w.heap.size v l := HoldsF.ofRow (f := hc) (fun _ => rfl) h
/-- Two tables that stay. -/
structure Two (w : World) (M : Nat) (v1 v2 : Value) (l1 l2 : List H3) (wx : World) : Prop where
  h1 : HoldsF hc 3 wx M v1 l1
  h2 : HoldsF hc 3 wx M v2 l2
  hb : Below w.heap.size w wx
theorem Two.keep {w wx wy : World} {M : Nat} {v1 v2 : Value} {l1 l2 : List H3} (h : Two w M v1 v2 l1 l2 wx) (hb : Below wx.heap.size wx wy) : Two w M v1 v2 l1 l2 wy := ⟨h.h1.below hb, h.h2.below hb, h.hb.trans (hb.mono h.hb.size)⟩
theorem below_drewN (w : World) (k : Nat) : Below w.heap.size w (w.drewN k) := ⟨rfl, by simp, rfl, Nat.le_refl _, fun _ _ => rfl⟩
theorem Two.drewN {w wx : World} {M : Nat} {v1 v2 : Value} {l1 l2 : List H3} (h : Two w M v1 v2 l1 l2 wx) (k : Nat) : Two w M v1 v2 l1 l2 (wx.drewN k) := h.keep (below_drewN _ _)
set_option maxRecDepth 100000 in
set_option maxHeartbeats 12800000 in
theorem fibDiffs_walk (a0 : Option Addr) (len0 cap0 : Nat) (z0 : List H3) (a1 : Option Addr) (len1 cap1 : Nat) (z1 : List H3) (x2 : Int) (w : World)
    (f0 : HoldsF hc 3 w w.heap.size (.slice a0 len0 cap0) z0) (g0 : len0 * 24 ≤ 140737488351232) (f1 : HoldsF hc 3 w w.heap.size (.slice a1 len1 cap1) z1) (g1 : len1 * 24 ≤ 140737488351232) (_w2 : (Lit.int .i64 x2).wf = true) :
    Calls Try.prog 3 #[.slice a0 len0 cap0, .slice a1 len1 cap1, .int .i64 x2] w fun r w' => r = .returned (.bool true) ∧ Below w.heap.size w w' := by
  obtain rfl : len0 = z0.length := by obtain ⟨_, _, h, _⟩ := f0; cases h; rfl
  obtain rfl : len1 = z1.length := by obtain ⟨_, _, h, _⟩ := f1; cases h; rfl
  obtain ⟨v0, hv0⟩ : ∃ v, v = Value.slice a0 z0.length cap0 := ⟨_, rfl⟩
  obtain ⟨v1, hv1⟩ : ∃ v, v = Value.slice a1 z1.length cap1 := ⟨_, rfl⟩
  rw [← hv0, ← hv1]
  rw [← hv0] at f0
  rw [← hv1] at f1
  obtain ⟨M, hM⟩ : ∃ M, M = w.heap.size := ⟨_, rfl⟩
  rw [← hM] at f0 f1
  have K := Kp.mk (Two.mk f0 f1 (Below.refl _ w) : Two w M v0 v1 z0 z1 w)
  have G := Kp.mk (And.intro g0 g1)
  clear f0 f1 g0 g1 hv0 hv1 hM
  go_enter Try.func3, Try.ntmps3
  go_wp2_with fail
  refine (table_any z0 _ v0 _ K.out.h1).mono ?_
  rintro r w1 ⟨rfl, k1, rfl⟩
  replace K := Kp.mk (K.out.drewN k1)
  generalize w.drewN k1 = w1 at K ⊢
  by_cases ht : tblB z0 = true ∧ tblB z1 = true
  · obtain ⟨ht0, ht1⟩ := ht
    have HT0 := Kp.mk ht0
    rw [ht0]
    clear ht0
    go_wp2_with fail
    refine (table_any z1 _ v1 _ K.out.h2).mono ?_
    rintro r w2 ⟨rfl, k2, rfl⟩
    replace K := Kp.mk (K.out.drewN k2)
    generalize w1.drewN k2 = w2 at K ⊢
    rw [ht1]
    clear ht1
    go_wp2_with fail
    refine (to_any z0 _ v0 _ K.out.h1 G.out.1).mono ?_
    rintro r w3 ⟨u0, rfl, ho, hb⟩
    replace K := Kp.mk (K.out.keep hb)
    have O0 := Kp.mk (ofRowH ho)
    clear ho hb
    go_wp2_with fail
    refine (to_any z1 _ v1 _ K.out.h2 G.out.2).mono ?_
    rintro r w4 ⟨u1, rfl, ho, hb⟩
    replace K := Kp.mk (K.out.keep hb)
    replace O0 := Kp.mk (O0.out.below hb)
    have O1 := Kp.mk (ofRowH ho)
    clear ho hb
    go_wp2_with fail
    refine (diff_any z0 z1 _ _ u0 u1 _ O0.out O1.out).mono ?_
    rintro r w5 ⟨d0, rfl, ho, hb⟩
    replace K := Kp.mk (K.out.keep hb)
    have D0 := Kp.mk (ofRowH ho)
    clear ho hb O0 O1
    go_wp2_with fail
    refine (rdiff_any z0 z1 _ _ v0 v1 _ K.out.h1 K.out.h2).mono ?_
    rintro r w6 ⟨d1, rfl, ho, hb⟩
    replace K := Kp.mk (K.out.keep hb)
    replace D0 := Kp.mk (D0.out.below hb)
    have D1 := Kp.mk (ofRowH ho)
    clear ho hb
    have HL := Kp.mk (diffL_len z0 z1 8)
    generalize diffL z0 z1 8 = D at D0 D1 HL
    obtain ⟨p0, c0, rfl⟩ := D0.out.shape
    obtain ⟨p1, c1, rfl⟩ := D1.out.shape
    obtain ⟨n, hn⟩ : ∃ n, n = D.length := ⟨_, rfl⟩
    rw [← hn] at D0 D1 HL ⊢
    have HN := Kp.mk hn
    clear hn
    have hn8 : n ≤ 8 := HL.out
    have hnn : ((n : Int) != (n : Int)) = false := by simp
    go_wp2_with fail
    refine (to_any z0 _ v0 _ K.out.h1 G.out.1).mono ?_
    rintro r w7 ⟨u2, rfl, ho, hb⟩
    replace K := Kp.mk (K.out.keep hb)
    replace D0 := Kp.mk (D0.out.below hb)
    replace D1 := Kp.mk (D1.out.below hb)
    have O2 := Kp.mk (ofRowH ho)
    clear ho hb
    go_wp2_with fail
    refine (lookup_any z0 x2 _ u2 _ O2.out).mono ?_
    rintro r w8 ⟨rfl, hb⟩
    replace K := Kp.mk (K.out.keep hb)
    replace D0 := Kp.mk (D0.out.below hb)
    replace D1 := Kp.mk (D1.out.below hb)
    clear hb O2
    go_wp2_with fail
    refine (rlookup_any z0 x2 _ v0 _ K.out.h1).mono ?_
    rintro r w9 ⟨rfl, rfl⟩
    have hll : (lookF z0 x2 != lookF z0 x2) = false := by simp
    generalize lookF z0 x2 = y at hll
    go_wp2_with fail
    go_loopw [9, 49] (fun _ c wr => ∃ i : Nat, i ≤ n ∧ c = .int .i64 i ∧ Kp (∃ k, wr = w8.drewN k)) (fun _ c _ => n - (intOf c).toNat)
    case atStart => exact ⟨0, by omega, rfl, ⟨0, rfl⟩⟩
    case round =>
      obtain ⟨i, hi, rfl, ⟨k, rfl⟩⟩ := hrel
      by_cases hlt : i < n
      · obtain ⟨b0, off0, rfl, -, -, e0, e1, e2⟩ := D0.out.hop (i := i) (by rw [← HN.out]; exact hlt)
        obtain ⟨b1, off1, rfl, -, -, q0, q1, q2⟩ := D1.out.hop (i := i) (by rw [← HN.out]; exact hlt)
        have t1 : (i : Int) < n := by omega
        generalize D.getD i default = h at e0 e1 e2 q0 q1 q2
        have j0 : (h.d != h.d) = false := by simp
        have j1 : (h.n != h.n) = false := by simp
        have j2 : (h.m != h.m) = false := by simp
        go_wp2_with fail
        go_quiet (fail)
        go_wp2_with fail
        exact ⟨⟨i + 1, by omega, by go_num, ⟨_, rfl⟩⟩, by simp [intOf]; omega⟩
      · obtain rfl : i = n := by omega
        replace K := Kp.mk (K.out.drewN k)
        clear D0 D1
        generalize w8.drewN k = wz at K ⊢
        go_wp2_with fail
        refine (awake_any _).mono ?_
        rintro r w9 ⟨rfl, hb⟩
        replace K := Kp.mk (K.out.keep hb)
        clear hb
        go_wp2_with fail
        refine (to_any z0 _ v0 _ K.out.h1 G.out.1).mono ?_
        rintro r w10 ⟨u3, rfl, ho, hb⟩
        replace K := Kp.mk (K.out.keep hb)
        have O3 := Kp.mk (ofRowH ho)
        clear ho hb
        go_wp2_with fail
        refine (to_any z0 _ v0 _ K.out.h1 G.out.1).mono ?_
        rintro r w11 ⟨u4, rfl, ho, hb⟩
        replace K := Kp.mk (K.out.keep hb)
        replace O3 := Kp.mk (O3.out.below hb)
        have O4 := Kp.mk (ofRowH ho)
        clear ho hb
        go_wp2_with fail
        refine (diff_any z0 z0 _ _ u3 u4 _ O3.out O4.out).mono ?_
        rw [diffL_self]
        rintro r w12 ⟨d3, rfl, ho, hb⟩
        replace K := Kp.mk (K.out.keep hb)
        obtain ⟨p3, c3, rfl⟩ := (ofRowH ho).shape
        clear ho hb O3 O4
        go_wp2_with fail
        go_ret
        exact ⟨rfl, K.out.hb⟩
  · have HW : Kp (tblB z0 = false ∨ (tblB z0 = true ∧ tblB z1 = false)) := ⟨by cases h0 : tblB z0 <;> cases h1 : tblB z1 <;> simp_all⟩
    clear ht
    rcases HW.out with h0 | ⟨h0, h1⟩
    case' inl =>
      rw [h0]
      clear h0 HW
      go_wp2_with fail
    case' inr =>
      rw [h0]
      clear h0 HW
      go_wp2_with fail
      refine (table_any z1 _ v1 _ K.out.h2).mono ?_
      rintro r w2 ⟨rfl, k2, rfl⟩
      replace K := Kp.mk (K.out.drewN k2)
      generalize w1.drewN k2 = w2 at K ⊢
      rw [h1]
      clear h1
      go_wp2_with fail
    all_goals
      refine (to_any z0 _ v0 _ K.out.h1 G.out.1).mono ?_
      rintro r w3 ⟨u0, rfl, ho, hb⟩
      replace K := Kp.mk (K.out.keep hb)
      have O0 := Kp.mk (ofRowH ho)
      clear ho hb
      go_wp2_with fail
      refine (to_any z1 _ v1 _ K.out.h2 G.out.2).mono ?_
      rintro r w4 ⟨u1, rfl, ho, hb⟩
      replace K := Kp.mk (K.out.keep hb)
      replace O0 := Kp.mk (O0.out.below hb)
      have O1 := Kp.mk (ofRowH ho)
      clear ho hb
      go_wp2_with fail
      refine (diff_any z0 z1 _ _ u0 u1 _ O0.out O1.out).mono ?_
      rintro r w5 ⟨d0, rfl, ho, hb⟩
      replace K := Kp.mk (K.out.keep hb)
      clear ho hb O0 O1
      go_wp2_with fail
      refine (awake_any _).mono ?_
      rintro r w9 ⟨rfl, hb⟩
      replace K := Kp.mk (K.out.keep hb)
      clear hb
      go_wp2_with fail
      go_ret
      exact ⟨rfl, K.out.hb⟩
end Go.Proofs.Ytkeoebldadpoiaa
