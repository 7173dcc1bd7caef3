/-
  The walk of the law TollBounds.
-/
import Derived.Test.YthhdbniliimonaaTlJ
namespace Go.Proofs.Ythhdbniliimonaa
open Go.RowKit
theorem tick_arg (n : Int) : 0 ≤ wrap64 ((IntKind.u64.wrap n).tmod 1000) ∧ wrap64 ((IntKind.u64.wrap n).tmod 1000) < 1000 := by
  have h : IntKind.u64.wrap n = n % 18446744073709551616 := by simp [IntKind.wrap, IntKind.signed, IntKind.bits]
  rw [h, Int.tmod_eq_emod_of_nonneg (by omega)]
  unfold wrap64
  omega
theorem KB_lt {w w' : World} {t : Nat} {s : TS} (h : Own w t s w') : t < w'.heap.size := h.blk.lt
theorem BInv.bl_le {a b c d fr bl ow tk : Int} {s : TS} {j : Nat} (h : BInv a b c d s fr bl ow tk j) (r : BRates a b c d) (hj : j ≤ 60) :
    0 ≤ bl ∧ bl ≤ 100000000000 ∧ 0 ≤ ow ∧ ow ≤ 100000000000 ∧ 0 ≤ fr ∧ fr ≤ 100000000000 := by
  have hp := h.prods r hj
  obtain ⟨⟨e1, e2, e3, e4, e5⟩, f0, g0, o0, fr0, bl0, tk0⟩ := h
  have := r.nums
  generalize d * tk = p at *
  generalize b * tk = q at *
  omega
theorem bounds_no (a b c d : Int) (ad : Option Addr) (len cap : Nat) (w : World) (h : rightV a b c d = false ∨ 1048576 < b ∨ 1048576 < d) :
    Calls Try.prog 4 #[.agg #[.int .i64 a, .int .i64 b, .int .i64 c, .int .i64 d], .slice ad len cap] w (LawPost w) := by
  have HT := fun w1 => to_any a b c d w1
  unfold rate at HT
  by_cases hr : rightV a b c d = true
  · have HN := fun w1 => new_yes a b c d w1 hr
    have hbd : 1048576 < b ∨ (b ≤ 1048576 ∧ 1048576 < d) := by
      rcases h with h | h
      · rw [h] at hr; cases hr
      · omega
    unfold rate at HN
    clear h hr
    rcases hbd with hbd | ⟨hbd, hbe⟩
    all_goals
      go_enter Try.func4, Try.ntmps4
      go_wp2_with fail
      refine (HT _).mono ?_
      rintro r w1 ⟨rfl, hb⟩
      obtain ⟨h1, h2, h3⟩ := after_one hb
      have K := Kp.mk (And.intro h3 h1)
      clear hb h1 h2 h3
      go_wp2_with fail
      refine (HN _).mono ?_
      rintro r w2 ⟨t, rfl, g1, g2, g3⟩
      replace K := Kp.mk (And.intro (K.out.1.keep g3) (K.out.2.trans (g3.mono K.out.2.size)))
      clear g1 g2 g3
      obtain ⟨c0, c1, c2, c3, -⟩ := K.out.1.four
      go_wp2_with fail
      refine (awake_any _).mono ?_
      rintro r w6 ⟨rfl, hb⟩
      replace K := Kp.mk (K.out.2.trans (hb.mono K.out.2.size))
      clear hb
      go_wp2_with fail
      go_ret
      exact ⟨rfl, K.out⟩
  · have HN := fun w1 => new_no a b c d w1 (by simpa using hr)
    unfold rate at HN
    clear h hr
    go_enter Try.func4, Try.ntmps4
    go_wp2_with fail
    refine (HT _).mono ?_
    rintro r w1 ⟨rfl, hb⟩
    obtain ⟨h1, h2, h3⟩ := after_one hb
    have K := Kp.mk (And.intro h3 h1)
    clear hb h1 h2 h3
    go_wp2_with fail
    refine (HN _).mono ?_
    rintro r w2 ⟨rfl, g3⟩
    replace K := Kp.mk (And.intro (K.out.1.keep g3) (K.out.2.trans (g3.mono K.out.2.size)))
    clear g3
    obtain ⟨c0, c1, c2, c3, -⟩ := K.out.1.four
    go_wp2_with fail
    refine (awake_any _).mono ?_
    rintro r w6 ⟨rfl, hb⟩
    replace K := Kp.mk (K.out.2.trans (hb.mono K.out.2.size))
    clear hb
    go_wp2_with fail
    go_ret
    exact ⟨rfl, K.out⟩
set_option maxRecDepth 100000 in
set_option maxHeartbeats 4000000 in
theorem bounds_yes (a b c d : Int) (ad : Option Addr) (len cap : Nat) (f : Nat → Int × Int) (w : World) (hr : BRates a b c d) (hops : IsOps w ad len f) :
    Calls Try.prog 4 #[.agg #[.int .i64 a, .int .i64 b, .int .i64 c, .int .i64 d], .slice ad len cap] w (LawPost w) := by
  have HOPS := Kp.mk hops.2
  have hlm : len ≤ 9223372036854775807 := by have := hops.1; unfold maxLen at this; omega
  have HBR := Kp.mk hr
  have HMO := Kp.mk (fun n w1 => most_any a b c d n w1)
  have HT := Kp.mk (fun w1 => to_any a b c d w1)
  have HN := fun w1 => new_yes a b c d w1 hr.r
  have hb1 := hr.b1
  have hd1 := hr.d1
  clear hr hops
  unfold rate at HT HN HMO
  go_enter Try.func4, Try.ntmps4
  go_wp2_with fail
  refine (HT.out _).mono ?_
  rintro r w1 ⟨rfl, hb⟩
  obtain ⟨h1, h2, h3⟩ := after_one hb
  have K := Kp.mk (And.intro h3 h1)
  clear hb h1 h2 h3
  go_wp2_with fail
  refine (HN _).mono ?_
  rintro r w2 ⟨t, rfl, g1, g2, g3⟩
  replace K := Kp.mk (And.intro (K.out.1.keep g3) (Own.mk (w := w) (Nat.le_trans K.out.2.size g1) g2 (K.out.2.trans (g3.mono K.out.2.size))))
  have HNE := Kp.mk (show t ≠ w.heap.size from (cells_ne g2 K.out.1 (by decide)))
  clear g1 g2 g3 HN
  obtain ⟨c0, c1, c2, c3, -⟩ := K.out.1.four
  go_wp2_with fail
  clear c0 c1 c2 c3 hb1 hd1
  generalize hB : w.heap.size = B0 at HT K HNE ⊢
  have HB0 := Kp.mk hB
  clear hB
  go_loopw [7, 8, 9, 10, 11, 12, 13, 14, 15, 37] (fun v7 v8 v9 v10 _ _ _ _ _ i wr => ∃ (j : Nat) (s : TS) (fr bl ow tk : Int), j ≤ len ∧ j ≤ 60 ∧ i = .int .i64 j ∧ v7 = .int .i64 fr ∧ v8 = .int .i64 bl ∧ v9 = .int .i64 ow ∧ v10 = .int .i64 tk ∧ Kp (BInv a b c d s fr bl ow tk j) ∧ Kp (Blk wr B0 (.cells #[.int .i64 a, .int .i64 b, .int .i64 c, .int .i64 d] 23) ∧ Own w t s wr)) (fun _ _ _ _ _ _ _ _ _ i _ => len - (intOf i).toNat)
  case atStart => exact ⟨0, _, 0, 0, 0, 0, Nat.zero_le _, Nat.zero_le _, rfl, rfl, rfl, rfl, rfl, ⟨BInv.start HBR.out⟩, K⟩
  case round =>
    obtain ⟨j, s, fr, bl, ow, tk, hj, hj60, rfl, rfl, rfl, rfl, rfl, HI, K⟩ := hrel
    by_cases hjl : j < len
    · have hjl' : (j : Int) < (len : Int) := by omega
      obtain ⟨b9, off, rfl, hb1, hc⟩ := HOPS.out (by omega)
      obtain ⟨hc0, hc1, wf0, wf1⟩ := hc j hjl
      have hd0 := (K.out.2.hb.cell (p := ⟨b9, off + j * 2, none⟩) hb1).trans hc0
      have hd1 := (K.out.2.hb.cell (p := ⟨b9, off + j * 2 + 1, none⟩) hb1).trans hc1
      clear hc hc0 hc1
      generalize (f j).1 = k at hd0 wf0
      generalize (f j).2 = n at hd1 wf1
      by_cases hjs : j = 60
      · have hjs' : (60 : Int) ≤ (j : Int) := by omega
        clear hjs
        go_wp2_with fail
        refine (awake_any _).mono ?_
        rintro r w6 ⟨rfl, hb⟩
        have hb2 := (K.out.2.more (more (Below.refl _ _) (.cells #[.int .i64 k, .int .i64 n] 38))).more hb
        have K2 := Kp.mk hb2.hb
        clear hb hb2
        go_wp2_with fail
        go_ret
        exact ⟨rfl, K2.out⟩
      · have hjs' : (j : Int) < 60 := by omega
        have hjn : j < 60 := by omega
        clear hjs
        by_cases hk0 : k = 0
        · subst hk0
          have KB := Kp.mk (And.intro (K.out.1.old (.cells #[.int .i64 0, .int .i64 n] 38)) (And.intro (Blk.new wr (.cells #[.int .i64 0, .int .i64 n] 38)) (K.out.2.more (more (Below.refl _ _) (.cells #[.int .i64 0, .int .i64 n] 38)))))
          have hx := tick_arg n
          go_wp2_with fail
          obtain ⟨x, hxe⟩ : ∃ x, wrap64 ((IntKind.u64.wrap n).tmod 1000) = x := ⟨_, rfl⟩
          rw [hxe] at hx ⊢
          have HXX := Kp.mk hx
          obtain ⟨hx0, hx1⟩ := hx
          clear hxe
          refine (tick_any t s x _ KB.out.2.2.blk).mono ?_
          rintro r w4 ⟨rfl, hT⟩
          obtain ⟨s2, hs2⟩ : ∃ s2, s2 = tickS s x := ⟨_, rfl⟩
          rw [← hs2] at hT
          have HI2 := Kp.mk (HI.out.tick HBR.out HXX.out)
          rw [← hs2] at HI2
          clear hs2
          have K4 := Kp.mk (And.intro (hT.keep KB.out.1 HNE.out.symm) (KB.out.2.2.step hT))
          clear hT hd0 hd1 KB
          have htk0 := HI.out.tk0
          obtain ⟨htk1, htk2⟩ := htk0
          have htk3 : tk ≤ 60000 := by omega
          go_wp2_with fail
          refine (left_any t s2 _ K4.out.2.blk).mono ?_
          rintro r w5 ⟨rfl, nd, rfl⟩
          replace K4 := Kp.mk (And.intro (Blk.drewN K4.out.1 nd) (K4.out.2.drewN nd))
          obtain ⟨c0, c1, c2, c3, -⟩ := K4.out.1.four
          have HA := Kp.mk (HI2.out.asks HBR.out (by omega))
          have HPR := Kp.mk (And.intro (HI2.out.prods HBR.out (by omega)).1 (HI2.out.prods HBR.out (by omega)).2.1)
          obtain ⟨mv, hmv⟩ : ∃ mv, mv = mostV a b c d (tk + x) := ⟨_, rfl⟩
          rw [← hmv] at HA
          have HMV := Kp.mk hmv.symm
          clear hmv
          go_wp2_with fail
          refine (HT.out _).mono ?_
          rintro r w6 ⟨rfl, hb⟩
          replace K4 := Kp.mk (And.intro (K4.out.1.keep hb) (K4.out.2.more hb))
          clear hb c0 c1 c2 c3
          go_wp2_with fail
          refine (HMO.out ((tk + x)) _).mono ?_
          rintro r w7 ⟨rfl, hb⟩
          replace K4 := Kp.mk (And.intro (K4.out.1.keep hb) (K4.out.2.more hb))
          clear hb
          obtain ⟨c0, c1, c2, c3, -⟩ := K4.out.1.four
          obtain ⟨hA0, hA1, hA2, hA3, hA4, hA5⟩ := HA.out
          rw [HMV.out]
          obtain ⟨P, hP⟩ : ∃ P, b * (tk + x) = P := ⟨_, rfl⟩
          have hPb := HPR.out
          rw [hP] at hPb hA1
          obtain ⟨hPb1, hPb2⟩ := hPb
          have hnum := HBR.out.nums
          obtain ⟨n1, n2, -⟩ := hnum
          go_wp2_with fail
          exact ⟨⟨j + 1, s2, fr, bl, ow, (tk + x), by omega, by omega, by first | rfl | go_num, rfl, rfl, rfl, rfl, HI2, K4⟩, by simp [intOf]; omega⟩
        · have hk0' : (k == 0) = false := by simpa using hk0
          by_cases hk1 : k = 1
          · subst hk1
            have e0 : ((1 : Int) == 0) = false := by decide
            have KB := Kp.mk (And.intro (K.out.1.old (.cells #[.int .i64 1, .int .i64 n] 38)) (And.intro (Blk.new wr (.cells #[.int .i64 1, .int .i64 n] 38)) (K.out.2.more (more (Below.refl _ _) (.cells #[.int .i64 1, .int .i64 n] 38)))))
            go_wp2_with fail
            refine (frame_any t s n _ KB.out.2.2.blk).mono ?_
            rintro r w4 ⟨rfl, hT⟩
            have K4 := Kp.mk (And.intro (hT.keep KB.out.1 HNE.out.symm) (And.intro (KB.out.2.2.step hT) (hT.keep KB.out.2.1 (Nat.ne_of_gt (KB_lt K.out.2)))))
            clear hT hd0 hd1 KB
            by_cases hE : frameE s n = 0
            · have HI2 := Kp.mk (HI.out.frame HBR.out hE)
              obtain ⟨s2, hs2⟩ : ∃ s2, s2 = frameS s n := ⟨_, rfl⟩
              rw [← hs2] at K4 HI2
              rw [hE]
              have hn0 := HI2.out.1
              have hn1 := HI2.out.2.1
              replace HI2 := Kp.mk HI2.out.2.2
              clear hs2 hE
              have hbl := HI.out.bl_le HBR.out (by omega)
              obtain ⟨hbl0, hbl1, how0, how1, hfr0, hfr1⟩ := hbl
              obtain ⟨c8, c9, -⟩ := K4.out.2.2.two
              replace K4 := Kp.mk (And.intro K4.out.1 K4.out.2.1)
              go_wp2_with fail
              refine (left_any t s2 _ K4.out.2.blk).mono ?_
              rintro r w5 ⟨rfl, nd, rfl⟩
              replace K4 := Kp.mk (And.intro (Blk.drewN K4.out.1 nd) (K4.out.2.drewN nd))
              obtain ⟨c0, c1, c2, c3, -⟩ := K4.out.1.four
              have HA := Kp.mk (HI2.out.asks HBR.out (by omega))
              have HPR := Kp.mk (And.intro (HI2.out.prods HBR.out (by omega)).1 (HI2.out.prods HBR.out (by omega)).2.1)
              obtain ⟨mv, hmv⟩ : ∃ mv, mv = mostV a b c d tk := ⟨_, rfl⟩
              rw [← hmv] at HA
              have HMV := Kp.mk hmv.symm
              clear hmv
              go_wp2_with fail
              refine (HT.out _).mono ?_
              rintro r w6 ⟨rfl, hb⟩
              replace K4 := Kp.mk (And.intro (K4.out.1.keep hb) (K4.out.2.more hb))
              clear hb c0 c1 c2 c3
              go_wp2_with fail
              refine (HMO.out (tk) _).mono ?_
              rintro r w7 ⟨rfl, hb⟩
              replace K4 := Kp.mk (And.intro (K4.out.1.keep hb) (K4.out.2.more hb))
              clear hb
              obtain ⟨c0, c1, c2, c3, -⟩ := K4.out.1.four
              obtain ⟨hA0, hA1, hA2, hA3, hA4, hA5⟩ := HA.out
              rw [HMV.out]
              obtain ⟨P, hP⟩ : ∃ P, b * tk = P := ⟨_, rfl⟩
              have hPb := HPR.out
              rw [hP] at hPb hA1
              obtain ⟨hPb1, hPb2⟩ := hPb
              have hnum := HBR.out.nums
              obtain ⟨n1, n2, -⟩ := hnum
              go_wp2_with fail
              exact ⟨⟨j + 1, s2, (fr + 1), (bl + n), ow, tk, by omega, by omega, by first | rfl | go_num, rfl, rfl, rfl, rfl, HI2, K4⟩, by simp [intOf]; omega⟩
            · have HI2 := Kp.mk (HI.out.next)
              have hE' : (frameE s n == 0) = false := by simpa using hE
              obtain ⟨s2, hs2⟩ : ∃ s2, s2 = frameS s n := ⟨_, rfl⟩
              have hss : s2 = s := by rw [hs2]; unfold frameS; rw [if_neg hE]
              rw [← hs2] at K4
              clear hs2 hE
              subst hss
              generalize frameE s2 n = E at hE' ⊢
              replace K4 := Kp.mk (And.intro K4.out.1 K4.out.2.1)
              go_wp2_with fail
              refine (left_any t s2 _ K4.out.2.blk).mono ?_
              rintro r w5 ⟨rfl, nd, rfl⟩
              replace K4 := Kp.mk (And.intro (Blk.drewN K4.out.1 nd) (K4.out.2.drewN nd))
              obtain ⟨c0, c1, c2, c3, -⟩ := K4.out.1.four
              have HA := Kp.mk (HI2.out.asks HBR.out (by omega))
              have HPR := Kp.mk (And.intro (HI2.out.prods HBR.out (by omega)).1 (HI2.out.prods HBR.out (by omega)).2.1)
              obtain ⟨mv, hmv⟩ : ∃ mv, mv = mostV a b c d tk := ⟨_, rfl⟩
              rw [← hmv] at HA
              have HMV := Kp.mk hmv.symm
              clear hmv
              go_wp2_with fail
              refine (HT.out _).mono ?_
              rintro r w6 ⟨rfl, hb⟩
              replace K4 := Kp.mk (And.intro (K4.out.1.keep hb) (K4.out.2.more hb))
              clear hb c0 c1 c2 c3
              go_wp2_with fail
              refine (HMO.out (tk) _).mono ?_
              rintro r w7 ⟨rfl, hb⟩
              replace K4 := Kp.mk (And.intro (K4.out.1.keep hb) (K4.out.2.more hb))
              clear hb
              obtain ⟨c0, c1, c2, c3, -⟩ := K4.out.1.four
              obtain ⟨hA0, hA1, hA2, hA3, hA4, hA5⟩ := HA.out
              rw [HMV.out]
              obtain ⟨P, hP⟩ : ∃ P, b * tk = P := ⟨_, rfl⟩
              have hPb := HPR.out
              rw [hP] at hPb hA1
              obtain ⟨hPb1, hPb2⟩ := hPb
              have hnum := HBR.out.nums
              obtain ⟨n1, n2, -⟩ := hnum
              go_wp2_with fail
              exact ⟨⟨j + 1, s2, fr, bl, ow, tk, by omega, by omega, by first | rfl | go_num, rfl, rfl, rfl, rfl, HI2, K4⟩, by simp [intOf]; omega⟩
          · have hk1' : (k == 1) = false := by simpa using hk1
            by_cases hk2 : k = 2
            · subst hk2
              have e0 : ((2 : Int) == 0) = false := by decide
              have e1 : ((2 : Int) == 1) = false := by decide
              have KB := Kp.mk (And.intro (K.out.1.old (.cells #[.int .i64 2, .int .i64 n] 38)) (And.intro (Blk.new wr (.cells #[.int .i64 2, .int .i64 n] 38)) (K.out.2.more (more (Below.refl _ _) (.cells #[.int .i64 2, .int .i64 n] 38)))))
              go_wp2_with fail
              refine (hold_any t s n _ KB.out.2.2.blk).mono ?_
              rintro r w4 ⟨rfl, hT⟩
              have K4 := Kp.mk (And.intro (hT.keep KB.out.1 HNE.out.symm) (And.intro (KB.out.2.2.step hT) (hT.keep KB.out.2.1 (Nat.ne_of_gt (KB_lt K.out.2)))))
              clear hT hd0 hd1 KB
              by_cases hE : holdE s n = 0
              · have HI2 := Kp.mk (HI.out.hold HBR.out (by omega) hE)
                obtain ⟨s2, hs2⟩ : ∃ s2, s2 = holdS s n := ⟨_, rfl⟩
                rw [← hs2] at K4 HI2
                rw [hE]
                have hn0 := HI2.out.1
                have hn1 := HI2.out.2.1
                replace HI2 := Kp.mk HI2.out.2.2
                clear hs2 hE
                have hbl := HI.out.bl_le HBR.out (by omega)
                obtain ⟨hbl0, hbl1, how0, how1, hfr0, hfr1⟩ := hbl
                obtain ⟨c8, c9, -⟩ := K4.out.2.2.two
                replace K4 := Kp.mk (And.intro K4.out.1 K4.out.2.1)
                go_wp2_with fail
                refine (left_any t s2 _ K4.out.2.blk).mono ?_
                rintro r w5 ⟨rfl, nd, rfl⟩
                replace K4 := Kp.mk (And.intro (Blk.drewN K4.out.1 nd) (K4.out.2.drewN nd))
                obtain ⟨c0, c1, c2, c3, -⟩ := K4.out.1.four
                have HA := Kp.mk (HI2.out.asks HBR.out (by omega))
                have HPR := Kp.mk (And.intro (HI2.out.prods HBR.out (by omega)).1 (HI2.out.prods HBR.out (by omega)).2.1)
                obtain ⟨mv, hmv⟩ : ∃ mv, mv = mostV a b c d tk := ⟨_, rfl⟩
                rw [← hmv] at HA
                have HMV := Kp.mk hmv.symm
                clear hmv
                go_wp2_with fail
                refine (HT.out _).mono ?_
                rintro r w6 ⟨rfl, hb⟩
                replace K4 := Kp.mk (And.intro (K4.out.1.keep hb) (K4.out.2.more hb))
                clear hb c0 c1 c2 c3
                go_wp2_with fail
                refine (HMO.out (tk) _).mono ?_
                rintro r w7 ⟨rfl, hb⟩
                replace K4 := Kp.mk (And.intro (K4.out.1.keep hb) (K4.out.2.more hb))
                clear hb
                obtain ⟨c0, c1, c2, c3, -⟩ := K4.out.1.four
                obtain ⟨hA0, hA1, hA2, hA3, hA4, hA5⟩ := HA.out
                rw [HMV.out]
                obtain ⟨P, hP⟩ : ∃ P, b * tk = P := ⟨_, rfl⟩
                have hPb := HPR.out
                rw [hP] at hPb hA1
                obtain ⟨hPb1, hPb2⟩ := hPb
                have hnum := HBR.out.nums
                obtain ⟨n1, n2, -⟩ := hnum
                go_wp2_with fail
                exact ⟨⟨j + 1, s2, fr, (bl + n), (ow + n), tk, by omega, by omega, by first | rfl | go_num, rfl, rfl, rfl, rfl, HI2, K4⟩, by simp [intOf]; omega⟩
              · have HI2 := Kp.mk (HI.out.next)
                have hE' : (holdE s n == 0) = false := by simpa using hE
                obtain ⟨s2, hs2⟩ : ∃ s2, s2 = holdS s n := ⟨_, rfl⟩
                have hss : s2 = s := by rw [hs2]; unfold holdS; rw [if_neg hE]
                rw [← hs2] at K4
                clear hs2 hE
                subst hss
                generalize holdE s2 n = E at hE' ⊢
                replace K4 := Kp.mk (And.intro K4.out.1 K4.out.2.1)
                go_wp2_with fail
                refine (left_any t s2 _ K4.out.2.blk).mono ?_
                rintro r w5 ⟨rfl, nd, rfl⟩
                replace K4 := Kp.mk (And.intro (Blk.drewN K4.out.1 nd) (K4.out.2.drewN nd))
                obtain ⟨c0, c1, c2, c3, -⟩ := K4.out.1.four
                have HA := Kp.mk (HI2.out.asks HBR.out (by omega))
                have HPR := Kp.mk (And.intro (HI2.out.prods HBR.out (by omega)).1 (HI2.out.prods HBR.out (by omega)).2.1)
                obtain ⟨mv, hmv⟩ : ∃ mv, mv = mostV a b c d tk := ⟨_, rfl⟩
                rw [← hmv] at HA
                have HMV := Kp.mk hmv.symm
                clear hmv
                go_wp2_with fail
                refine (HT.out _).mono ?_
                rintro r w6 ⟨rfl, hb⟩
                replace K4 := Kp.mk (And.intro (K4.out.1.keep hb) (K4.out.2.more hb))
                clear hb c0 c1 c2 c3
                go_wp2_with fail
                refine (HMO.out (tk) _).mono ?_
                rintro r w7 ⟨rfl, hb⟩
                replace K4 := Kp.mk (And.intro (K4.out.1.keep hb) (K4.out.2.more hb))
                clear hb
                obtain ⟨c0, c1, c2, c3, -⟩ := K4.out.1.four
                obtain ⟨hA0, hA1, hA2, hA3, hA4, hA5⟩ := HA.out
                rw [HMV.out]
                obtain ⟨P, hP⟩ : ∃ P, b * tk = P := ⟨_, rfl⟩
                have hPb := HPR.out
                rw [hP] at hPb hA1
                obtain ⟨hPb1, hPb2⟩ := hPb
                have hnum := HBR.out.nums
                obtain ⟨n1, n2, -⟩ := hnum
                go_wp2_with fail
                exact ⟨⟨j + 1, s2, fr, bl, ow, tk, by omega, by omega, by first | rfl | go_num, rfl, rfl, rfl, rfl, HI2, K4⟩, by simp [intOf]; omega⟩
            · have hk2' : (k == 2) = false := by simpa using hk2
              by_cases hk3 : k = 3
              · subst hk3
                have e0 : ((3 : Int) == 0) = false := by decide
                have e1 : ((3 : Int) == 1) = false := by decide
                have e2 : ((3 : Int) == 2) = false := by decide
                have KB := Kp.mk (And.intro (K.out.1.old (.cells #[.int .i64 3, .int .i64 n] 38)) (And.intro (Blk.new wr (.cells #[.int .i64 3, .int .i64 n] 38)) (K.out.2.more (more (Below.refl _ _) (.cells #[.int .i64 3, .int .i64 n] 38)))))
                go_wp2_with fail
                refine (settle_any t s n _ KB.out.2.2.blk).mono ?_
                rintro r w4 ⟨rfl, hT⟩
                have K4 := Kp.mk (And.intro (hT.keep KB.out.1 HNE.out.symm) (And.intro (KB.out.2.2.step hT) (hT.keep KB.out.2.1 (Nat.ne_of_gt (KB_lt K.out.2)))))
                clear hT hd0 hd1 KB
                by_cases hE : settleE s n = 0
                · have HI2 := Kp.mk (HI.out.settle HBR.out (by omega) hE)
                  obtain ⟨s2, hs2⟩ : ∃ s2, s2 = settleS s n := ⟨_, rfl⟩
                  rw [← hs2] at K4 HI2
                  rw [hE]
                  have hn0 := HI2.out.1
                  have hn1 := HI2.out.2.1
                  replace HI2 := Kp.mk HI2.out.2.2
                  clear hs2 hE
                  have hbl := HI.out.bl_le HBR.out (by omega)
                  obtain ⟨hbl0, hbl1, how0, how1, hfr0, hfr1⟩ := hbl
                  obtain ⟨c8, c9, -⟩ := K4.out.2.2.two
                  replace K4 := Kp.mk (And.intro K4.out.1 K4.out.2.1)
                  go_wp2_with fail
                  refine (left_any t s2 _ K4.out.2.blk).mono ?_
                  rintro r w5 ⟨rfl, nd, rfl⟩
                  replace K4 := Kp.mk (And.intro (Blk.drewN K4.out.1 nd) (K4.out.2.drewN nd))
                  obtain ⟨c0, c1, c2, c3, -⟩ := K4.out.1.four
                  have HA := Kp.mk (HI2.out.asks HBR.out (by omega))
                  have HPR := Kp.mk (And.intro (HI2.out.prods HBR.out (by omega)).1 (HI2.out.prods HBR.out (by omega)).2.1)
                  obtain ⟨mv, hmv⟩ : ∃ mv, mv = mostV a b c d tk := ⟨_, rfl⟩
                  rw [← hmv] at HA
                  have HMV := Kp.mk hmv.symm
                  clear hmv
                  go_wp2_with fail
                  refine (HT.out _).mono ?_
                  rintro r w6 ⟨rfl, hb⟩
                  replace K4 := Kp.mk (And.intro (K4.out.1.keep hb) (K4.out.2.more hb))
                  clear hb c0 c1 c2 c3
                  go_wp2_with fail
                  refine (HMO.out (tk) _).mono ?_
                  rintro r w7 ⟨rfl, hb⟩
                  replace K4 := Kp.mk (And.intro (K4.out.1.keep hb) (K4.out.2.more hb))
                  clear hb
                  obtain ⟨c0, c1, c2, c3, -⟩ := K4.out.1.four
                  obtain ⟨hA0, hA1, hA2, hA3, hA4, hA5⟩ := HA.out
                  rw [HMV.out]
                  obtain ⟨P, hP⟩ : ∃ P, b * tk = P := ⟨_, rfl⟩
                  have hPb := HPR.out
                  rw [hP] at hPb hA1
                  obtain ⟨hPb1, hPb2⟩ := hPb
                  have hnum := HBR.out.nums
                  obtain ⟨n1, n2, -⟩ := hnum
                  go_wp2_with fail
                  exact ⟨⟨j + 1, s2, fr, (bl - (ow - n)), 0, tk, by omega, by omega, by first | rfl | go_num, rfl, rfl, rfl, rfl, HI2, K4⟩, by simp [intOf]; omega⟩
                · have HI2 := Kp.mk (HI.out.next)
                  have hE' : (settleE s n == 0) = false := by simpa using hE
                  obtain ⟨s2, hs2⟩ : ∃ s2, s2 = settleS s n := ⟨_, rfl⟩
                  have hss : s2 = s := by rw [hs2]; unfold settleS; rw [if_neg hE]
                  rw [← hs2] at K4
                  clear hs2 hE
                  subst hss
                  generalize settleE s2 n = E at hE' ⊢
                  replace K4 := Kp.mk (And.intro K4.out.1 K4.out.2.1)
                  go_wp2_with fail
                  refine (left_any t s2 _ K4.out.2.blk).mono ?_
                  rintro r w5 ⟨rfl, nd, rfl⟩
                  replace K4 := Kp.mk (And.intro (Blk.drewN K4.out.1 nd) (K4.out.2.drewN nd))
                  obtain ⟨c0, c1, c2, c3, -⟩ := K4.out.1.four
                  have HA := Kp.mk (HI2.out.asks HBR.out (by omega))
                  have HPR := Kp.mk (And.intro (HI2.out.prods HBR.out (by omega)).1 (HI2.out.prods HBR.out (by omega)).2.1)
                  obtain ⟨mv, hmv⟩ : ∃ mv, mv = mostV a b c d tk := ⟨_, rfl⟩
                  rw [← hmv] at HA
                  have HMV := Kp.mk hmv.symm
                  clear hmv
                  go_wp2_with fail
                  refine (HT.out _).mono ?_
                  rintro r w6 ⟨rfl, hb⟩
                  replace K4 := Kp.mk (And.intro (K4.out.1.keep hb) (K4.out.2.more hb))
                  clear hb c0 c1 c2 c3
                  go_wp2_with fail
                  refine (HMO.out (tk) _).mono ?_
                  rintro r w7 ⟨rfl, hb⟩
                  replace K4 := Kp.mk (And.intro (K4.out.1.keep hb) (K4.out.2.more hb))
                  clear hb
                  obtain ⟨c0, c1, c2, c3, -⟩ := K4.out.1.four
                  obtain ⟨hA0, hA1, hA2, hA3, hA4, hA5⟩ := HA.out
                  rw [HMV.out]
                  obtain ⟨P, hP⟩ : ∃ P, b * tk = P := ⟨_, rfl⟩
                  have hPb := HPR.out
                  rw [hP] at hPb hA1
                  obtain ⟨hPb1, hPb2⟩ := hPb
                  have hnum := HBR.out.nums
                  obtain ⟨n1, n2, -⟩ := hnum
                  go_wp2_with fail
                  exact ⟨⟨j + 1, s2, fr, bl, ow, tk, by omega, by omega, by first | rfl | go_num, rfl, rfl, rfl, rfl, HI2, K4⟩, by simp [intOf]; omega⟩
              · have hk3' : (k == 3) = false := by simpa using hk3
                have KB := Kp.mk (And.intro (K.out.1.old (.cells #[.int .i64 k, .int .i64 n] 38)) (K.out.2.more (more (Below.refl _ _) (.cells #[.int .i64 k, .int .i64 n] 38))))
                clear hk0 hk1 hk2 hk3
                go_wp2_with fail
                have HI2 := Kp.mk (HI.out.next)
                obtain ⟨s2, hs2⟩ : ∃ s2, s2 = s := ⟨_, rfl⟩
                subst hs2
                have K4 := KB
                clear hd0 hd1 KB
                refine (left_any t s2 _ K4.out.2.blk).mono ?_
                rintro r w5 ⟨rfl, nd, rfl⟩
                replace K4 := Kp.mk (And.intro (Blk.drewN K4.out.1 nd) (K4.out.2.drewN nd))
                obtain ⟨c0, c1, c2, c3, -⟩ := K4.out.1.four
                have HA := Kp.mk (HI2.out.asks HBR.out (by omega))
                have HPR := Kp.mk (And.intro (HI2.out.prods HBR.out (by omega)).1 (HI2.out.prods HBR.out (by omega)).2.1)
                obtain ⟨mv, hmv⟩ : ∃ mv, mv = mostV a b c d tk := ⟨_, rfl⟩
                rw [← hmv] at HA
                have HMV := Kp.mk hmv.symm
                clear hmv
                go_wp2_with fail
                refine (HT.out _).mono ?_
                rintro r w6 ⟨rfl, hb⟩
                replace K4 := Kp.mk (And.intro (K4.out.1.keep hb) (K4.out.2.more hb))
                clear hb c0 c1 c2 c3
                go_wp2_with fail
                refine (HMO.out (tk) _).mono ?_
                rintro r w7 ⟨rfl, hb⟩
                replace K4 := Kp.mk (And.intro (K4.out.1.keep hb) (K4.out.2.more hb))
                clear hb
                obtain ⟨c0, c1, c2, c3, -⟩ := K4.out.1.four
                obtain ⟨hA0, hA1, hA2, hA3, hA4, hA5⟩ := HA.out
                rw [HMV.out]
                obtain ⟨P, hP⟩ : ∃ P, b * tk = P := ⟨_, rfl⟩
                have hPb := HPR.out
                rw [hP] at hPb hA1
                obtain ⟨hPb1, hPb2⟩ := hPb
                have hnum := HBR.out.nums
                obtain ⟨n1, n2, -⟩ := hnum
                go_wp2_with fail
                exact ⟨⟨j + 1, s2, fr, bl, ow, tk, by omega, by omega, by first | rfl | go_num, rfl, rfl, rfl, rfl, HI2, K4⟩, by simp [intOf]; omega⟩
    · go_wp2_with fail
      refine (awake_any _).mono ?_
      rintro r w6 ⟨rfl, hb⟩
      have K2 := Kp.mk (K.out.2.more hb).hb
      clear hb
      go_wp2_with fail
      go_ret
      exact ⟨rfl, K2.out⟩
end Go.Proofs.Ythhdbniliimonaa
