/-
  The walk of the law TollPlays.
-/
import Derived.Test.YthhdbniliimonaaTlH
namespace Go.Proofs.Ythhdbniliimonaa
open Go.RowKit
theorem cells_ne {w : World} {a b : Nat} {c1 c2 : Array Value} {t1 t2 : TypeId} {f1 f2 : Nat × Nat} (h1 : w.heap[a]? = some (.cells c1 t1 f1)) (h2 : w.heap[b]? = some (.cells c2 t2 f2)) (h : t1 ≠ t2) : a ≠ b := by
  rintro rfl
  rw [h1] at h2
  injection h2 with e
  injection e with _ e
  exact h e
theorem Own.setRow {w w2 : World} {t M : Nat} {s : TS} (h : Own w t s w2) (hM : w.heap.size ≤ M) (hne : t ≠ M) (cs : Array Value) : Own w t s (w2.setRow M cs) := ⟨h.le, (setRow_other _ _ _ _ hne).trans h.blk, below_setRow h.hb hM cs⟩
theorem wpl_world {P : Program} {ops : Array Oper} {l : List Oper} {Q : Exit → Act → World → Prop} {a : Act} {w : World} (F : World → Prop) (hF : F w) (h : ∀ w2, F w2 → wpList P ops Q l a w2) : wpList P ops Q l a w := h w hF
theorem Blk.drewN {w : World} {b : Nat} {o : Obj} (h : Blk w b o) (n : Nat) : Blk (w.drewN n) b o := h
theorem seven_one (a b c d e f g : Int) : (#[Value.int .i64 a, .int .i64 b, .int .i64 c, .int .i64 d, .int .i64 e, .int .i64 f, .int .i64 g] : Array Value).all (·.oneCell') = true := by simp [Value.oneCell']
def TS.mobj (s : TS) : Obj := .cells #[.int .i64 s.a, .int .i64 s.b, .int .i64 s.c, .int .i64 s.d, .int .i64 s.f, .int .i64 s.g, .int .i64 s.o] 35
def LawPost (w : World) (r : Ending) (w' : World) : Prop := r = .returned (.bool true) ∧ Below w.heap.size w w'
theorem Own.rate {w : World} {B : Nat} {o : Obj} {w1 w2 : World} (h : Blk w1 B o) (k : Below w1.heap.size w1 w2) : Blk w2 B o := h.keep k
theorem plays_no (a b c d : Int) (ad : Option Addr) (len cap : Nat) (w : World) (h : rightV a b c d = false) :
    Calls Try.prog 3 #[.agg #[.int .i64 a, .int .i64 b, .int .i64 c, .int .i64 d], .slice ad len cap] w (LawPost w) := by
  have HT := fun w1 => to_any a b c d w1
  have HN := fun w1 => new_no a b c d w1 h
  have HR := fun w1 => right_any a b c d w1
  have HRR := fun w1 => rright_any a b c d w1
  rw [h] at HR HRR
  clear h
  unfold rate at HT HN HR
  go_enter Try.func3, Try.ntmps3
  go_wp2_with fail
  refine (HT _).mono ?_
  rintro r w1 ⟨rfl, hb⟩
  obtain ⟨h1, h2, h3⟩ := after_one hb
  have K := Kp.mk (And.intro h3 h1)
  clear hb h1 h2 h3
  go_wp2_with fail
  refine (HN _).mono ?_
  rintro r w2 ⟨rfl, hb⟩
  replace K := Kp.mk (And.intro (K.out.1.keep hb) (K.out.2.trans (hb.mono K.out.2.size)))
  clear hb
  go_wp2_with fail
  refine wp_region_flow (fun w' => Blk w' w.heap.size (.cells #[.int .i64 a, .int .i64 b, .int .i64 c, .int .i64 d] 23) ∧ Below w.heap.size w w') (by kernel_rfl) (by kernel_rfl) (by kernel_rfl)
    (fun _ _ h hb => ⟨h.1.keep hb, h.2.trans (hb.mono h.2.size)⟩) ⟨K.out.1.draw, Below.drew K.out.2⟩ ?_
  repeat (first
    | (apply Flow.value
       · rfl
       · (intro wx hS; obtain ⟨c0, c1, c2, c3, -⟩ := hS.1.four; go_simp; with_reducible rfl)
       try simp only [Act.put, List.setIfInBounds_toArray, List.set_cons_zero, List.set_cons_succ])
    | (apply Flow.call
       · rfl
       · intro wx hS; go_simp; constructor <;> with_reducible rfl
       · intro wx hS; first | exact HT wx | exact HR wx | exact HRR wx
       simp only [Act.put, List.setIfInBounds_toArray, List.set_cons_zero, List.set_cons_succ]))
  refine Flow.done ?_
  intro w4 hS
  have HS4 := Kp.mk hS
  obtain ⟨c0, c1, c2, c3, -⟩ := hS.1.four
  clear hS
  go_wp2_with fail
  refine (HRR _).mono ?_
  rintro r w5 ⟨rfl, hb⟩
  replace HS4 := Kp.mk (HS4.out.2.trans (hb.mono HS4.out.2.size))
  clear hb c0 c1 c2 c3
  go_wp2_with fail
  refine (awake_any _).mono ?_
  rintro r w6 ⟨rfl, hb⟩
  replace HS4 := Kp.mk (HS4.out.trans (hb.mono HS4.out.size))
  clear hb
  go_wp2_with fail
  go_ret
  exact ⟨rfl, HS4.out⟩
set_option maxRecDepth 100000 in
set_option maxHeartbeats 4000000 in
theorem plays_yes (a b c d : Int) (ad : Option Addr) (len cap : Nat) (f : Nat → Int × Int) (w : World) (h : rightV a b c d = true) (hops : IsOps w ad len f) :
    Calls Try.prog 3 #[.agg #[.int .i64 a, .int .i64 b, .int .i64 c, .int .i64 d], .slice ad len cap] w (LawPost w) := by
  have HOPS := Kp.mk hops.2
  have hlm : len ≤ 9223372036854775807 := by have := hops.1; unfold maxLen at this; omega
  have HT := fun w1 => to_any a b c d w1
  have HN := fun w1 => new_yes a b c d w1 h
  have HR := fun w1 => right_any a b c d w1
  have HRR := fun w1 => rright_any a b c d w1
  have HRN := fun w1 => rnew_any a b c d w1
  rw [h] at HR HRR
  have HOK : Kp (TS.mk a b c d a c 0).Ok := ⟨⟨h, small_wrap (by have : 1 ≤ a ∧ a ≤ 1073741824 ∧ 0 ≤ b ∧ b ≤ 1073741824 ∧ 1 ≤ c ∧ c ≤ 1073741824 ∧ 0 ≤ d ∧ d ≤ 1073741824 := by simpa [rightV] using h
                                                                simp only; omega), small_wrap (by have : 1 ≤ a ∧ a ≤ 1073741824 ∧ 0 ≤ b ∧ b ≤ 1073741824 ∧ 1 ≤ c ∧ c ≤ 1073741824 ∧ 0 ≤ d ∧ d ≤ 1073741824 := by simpa [rightV] using h
                                                                                                  simp only; omega)⟩⟩
  clear h hops
  unfold rate at HT HN HR HRN
  go_enter Try.func3, Try.ntmps3
  go_wp2_with fail
  refine (HT _).mono ?_
  rintro r w1 ⟨rfl, hb⟩
  obtain ⟨h1, h2, h3⟩ := after_one hb
  have K := Kp.mk (And.intro h3 h1)
  clear hb h1 h2 h3
  go_wp2_with fail
  refine (HN _).mono ?_
  rintro r w2 ⟨t, rfl, g1, g2, g3⟩
  replace K := Kp.mk (And.intro (K.out.1.keep g3) (Own.mk (w := w) (Nat.le_trans K.out.2.size g1) g2 (K.out.2.trans (g3.mono K.out.2.size))))
  clear g1 g2 g3
  go_wp2_with fail
  refine wp_region_flow (fun w' => Blk w' w.heap.size (.cells #[.int .i64 a, .int .i64 b, .int .i64 c, .int .i64 d] 23) ∧ Own w t ⟨a, b, c, d, a, c, 0⟩ w') (by kernel_rfl) (by kernel_rfl) (by kernel_rfl)
    (fun _ _ h hb => ⟨h.1.keep hb, h.2.more hb⟩) ⟨K.out.1.draw, K.out.2.drewN 1⟩ ?_
  repeat (first
    | (apply Flow.value
       · rfl
       · (intro wx hS; obtain ⟨c0, c1, c2, c3, -⟩ := hS.1.four; go_simp; with_reducible rfl)
       try simp only [Act.put, List.setIfInBounds_toArray, List.set_cons_zero, List.set_cons_succ])
    | (apply Flow.call
       · rfl
       · intro wx hS; go_simp; constructor <;> with_reducible rfl
       · intro wx hS; first | exact HT wx | exact HR wx | exact HRR wx
       simp only [Act.put, List.setIfInBounds_toArray, List.set_cons_zero, List.set_cons_succ]))
  refine Flow.done ?_
  clear K
  intro w4 hS
  have K := Kp.mk hS
  obtain ⟨c0, c1, c2, c3, -⟩ := hS.1.four
  clear hS
  go_wp2_with fail
  refine (HRR _).mono ?_
  rintro r w5 ⟨rfl, hb⟩
  replace K := Kp.mk (And.intro (K.out.1.keep hb) (K.out.2.more hb))
  clear hb c0 c1 c2 c3
  go_wp2_with fail
  refine (awake_any _).mono ?_
  rintro r w6 ⟨rfl, hb⟩
  replace K := Kp.mk (And.intro (K.out.1.keep hb) (K.out.2.more hb))
  clear hb
  obtain ⟨c0, c1, c2, c3, -⟩ := K.out.1.four
  go_wp2_with fail
  refine (HRN _).mono ?_
  rintro r w7 ⟨rfl, hb⟩
  replace K := Kp.mk (K.out.2.more hb)
  clear hb c0 c1 c2 c3 HT HN HR HRR HRN
  unfold TS.val
  go_wp2_with fail
  obtain ⟨M, hM⟩ : ∃ M, M = w7.heap.size := ⟨_, rfl⟩
  have HM := Kp.mk (show w.heap.size ≤ M ∧ t ≠ M by rw [hM]; exact ⟨K.out.hb.size, Nat.ne_of_lt K.out.blk.lt⟩)
  rw [← hM]
  have hBM := Blk.newAt (w := w7) (TS.mk a b c d a c 0).mobj hM
  have hOM := K.out.more (more (Below.refl _ _) (TS.mk a b c d a c 0).mobj)
  clear K hM
  unfold TS.mobj at hBM hOM
  revert hBM hOM
  simp only
  generalize w7.alloc _ = w8
  intro hBM hOM
  have K := Kp.mk (And.intro hBM hOM)
  clear hBM hOM
  go_loopw [9, 10, 11, 12, 13, 52] (fun _ _ _ _ _ i wr => ∃ (j : Nat) (s : TS), j ≤ len ∧ i = .int .i64 j ∧ Kp s.Ok ∧ Kp (Blk wr M s.mobj) ∧ Kp (Own w t s wr)) (fun _ _ _ _ _ i _ => len - (intOf i).toNat)
  case atStart => exact ⟨0, _, Nat.zero_le _, rfl, HOK, ⟨K.out.1⟩, ⟨K.out.2⟩⟩
  case round =>
    obtain ⟨j, s, hj, rfl, HS, HBM, HO⟩ := hrel
    by_cases hjl : j < len
    · have hjl' : (j : Int) < (len : Int) := by omega
      obtain ⟨b, off, rfl, hb1, hc⟩ := HOPS.out (by omega)
      obtain ⟨hc0, hc1, -, -⟩ := hc j hjl
      have hd0 := (HO.out.hb.cell (p := ⟨b, off + j * 2, none⟩) hb1).trans hc0
      have hd1 := (HO.out.hb.cell (p := ⟨b, off + j * 2 + 1, none⟩) hb1).trans hc1
      clear hc hc0 hc1
      generalize (f j).1 = k at hd0
      generalize (f j).2 = n at hd1
      by_cases hk0 : k = 0
      · subst hk0
        have KB := Kp.mk (And.intro ((HBM.out).old (.cells #[.int .i64 0, .int .i64 n] 38)) (And.intro (Blk.new wr (.cells #[.int .i64 0, .int .i64 n] 38)) (HO.out.more (more (Below.refl _ _) (.cells #[.int .i64 0, .int .i64 n] 38)))))
        go_wp2_with (refine wpList_load_row rfl 35 (.tmp 7) rfl M rfl 35 _ (0, 0) _ ((HBM.out).old _) Try.underlying35 rfl info35 ?_)
        have hR := fun w1 => rtick_any s n w1 ⟨HS.out.rates.2.2.1, HS.out.rates.2.2.2.2.2.2.1, HS.out.f, HS.out.g⟩
        unfold TS.val RTPost at hR
        refine (hR _).mono ?_
        clear hR hd0 hd1
        rintro r w2 ⟨rfl, hb⟩
        replace KB := Kp.mk (And.intro (KB.out.1.keep hb) (And.intro (KB.out.2.1.keep hb) (KB.out.2.2.more hb)))
        clear hb
        generalize wr.heap.size = B at KB ⊢
        have HS2 := Kp.mk (HS.out.tick n)
        obtain ⟨s2, hs2⟩ : ∃ s2, s2 = tickS s n := ⟨_, rfl⟩
        obtain ⟨E, hE⟩ : ∃ E, E = tickE n := ⟨_, rfl⟩
        have HS2E := Kp.mk (And.intro hs2 hE)
        rw [← hs2] at HS2
        rw [← hs2, ← hE]
        clear hs2 hE
        unfold TS.val
        obtain ⟨c0, c1, -⟩ := KB.out.2.1.two
        clear c0 c1
        go_wp2_with (first
          | (refine wpList_store_row rfl 35 (.tmp 7) (.tmp 66) rfl M #[.int .i64 s2.a, .int .i64 s2.b, .int .i64 s2.c, .int .i64 s2.d, .int .i64 s2.f, .int .i64 s2.g, .int .i64 s2.o] rfl rfl 35 _ KB.out.1 info35 rfl (seven_one _ _ _ _ _ _ _) ?_
             refine wpl_world (fun w3 => Blk w3 M s2.mobj ∧ Blk w3 B (.cells #[.int .i64 0, .int .i64 n] 38) ∧ Own w t s w3) ⟨Blk.setRow KB.out.1 _, (setRow_other _ _ _ _ (cells_ne KB.out.2.1 KB.out.1 (by decide))).trans KB.out.2.1, KB.out.2.2.setRow HM.out.1 HM.out.2 _⟩ ?_
             intro w3 hw3
             have K3 := Kp.mk hw3
             obtain ⟨c0, c1, -⟩ := hw3.2.1.two
             clear hw3))
        refine (tick_any t s n _ K3.out.2.2.blk).mono ?_
        rintro r w4 ⟨rfl, hT⟩
        rw [← HS2E.out.1] at hT
        rw [← HS2E.out.2]
        have K4 := Kp.mk (And.intro (hT.keep K3.out.1 HM.out.2.symm) (K3.out.2.2.step hT))
        clear hT c0 c1
        go_wp2_with fail
        refine (left_any t s2 _ K4.out.2.blk).mono ?_
        rintro r w5 ⟨rfl, nd, rfl⟩
        replace K4 := Kp.mk (And.intro (Blk.drewN K4.out.1 nd) (K4.out.2.drewN nd))
        obtain ⟨m0, m1, m2, m3, m4, m5, m6, -⟩ := K4.out.1.seven
        clear m0 m1 m2 m3 m6
        go_wp2_with fail
        exact ⟨⟨j + 1, s2, by omega, by first | rfl | go_num, HS2, ⟨K4.out.1⟩, ⟨K4.out.2⟩⟩, by simp [intOf]; omega⟩
      · have hk0' : (k == 0) = false := by simpa using hk0
        by_cases hk1 : k = 1
        · subst hk1
          have KB := Kp.mk (And.intro ((HBM.out).old (.cells #[.int .i64 1, .int .i64 n] 38)) (And.intro (Blk.new wr (.cells #[.int .i64 1, .int .i64 n] 38)) (HO.out.more (more (Below.refl _ _) (.cells #[.int .i64 1, .int .i64 n] 38)))))
          have e0 : ((1 : Int) == 0) = false := by decide
          go_wp2_with (refine wpList_load_row rfl 35 (.tmp 7) rfl M rfl 35 _ (0, 0) _ ((HBM.out).old _) Try.underlying35 rfl info35 ?_)
          have hR := fun w1 => rframe_any s n w1
          unfold TS.val RTPost at hR
          refine (hR _).mono ?_
          clear hR hd0 hd1
          rintro r w2 ⟨rfl, hb⟩
          replace KB := Kp.mk (And.intro (KB.out.1.keep hb) (And.intro (KB.out.2.1.keep hb) (KB.out.2.2.more hb)))
          clear hb
          generalize wr.heap.size = B at KB ⊢
          have HS2 := Kp.mk (HS.out.frame n)
          obtain ⟨s2, hs2⟩ : ∃ s2, s2 = frameS s n := ⟨_, rfl⟩
          obtain ⟨E, hE⟩ : ∃ E, E = frameE s n := ⟨_, rfl⟩
          have HS2E := Kp.mk (And.intro hs2 hE)
          rw [← hs2] at HS2
          rw [← hs2, ← hE]
          clear hs2 hE
          unfold TS.val
          obtain ⟨c0, c1, -⟩ := KB.out.2.1.two
          clear c0 c1
          go_wp2_with (first
            | (refine wpList_store_row rfl 35 (.tmp 7) (.tmp 79) rfl M #[.int .i64 s2.a, .int .i64 s2.b, .int .i64 s2.c, .int .i64 s2.d, .int .i64 s2.f, .int .i64 s2.g, .int .i64 s2.o] rfl rfl 35 _ KB.out.1 info35 rfl (seven_one _ _ _ _ _ _ _) ?_
               refine wpl_world (fun w3 => Blk w3 M s2.mobj ∧ Blk w3 B (.cells #[.int .i64 1, .int .i64 n] 38) ∧ Own w t s w3) ⟨Blk.setRow KB.out.1 _, (setRow_other _ _ _ _ (cells_ne KB.out.2.1 KB.out.1 (by decide))).trans KB.out.2.1, KB.out.2.2.setRow HM.out.1 HM.out.2 _⟩ ?_
               intro w3 hw3
               have K3 := Kp.mk hw3
               obtain ⟨c0, c1, -⟩ := hw3.2.1.two
               clear hw3))
          refine (frame_any t s n _ K3.out.2.2.blk).mono ?_
          rintro r w4 ⟨rfl, hT⟩
          rw [← HS2E.out.1] at hT
          rw [← HS2E.out.2]
          have K4 := Kp.mk (And.intro (hT.keep K3.out.1 HM.out.2.symm) (K3.out.2.2.step hT))
          clear hT c0 c1
          go_wp2_with fail
          refine (left_any t s2 _ K4.out.2.blk).mono ?_
          rintro r w5 ⟨rfl, nd, rfl⟩
          replace K4 := Kp.mk (And.intro (Blk.drewN K4.out.1 nd) (K4.out.2.drewN nd))
          obtain ⟨m0, m1, m2, m3, m4, m5, m6, -⟩ := K4.out.1.seven
          clear m0 m1 m2 m3 m6
          go_wp2_with fail
          exact ⟨⟨j + 1, s2, by omega, by first | rfl | go_num, HS2, ⟨K4.out.1⟩, ⟨K4.out.2⟩⟩, by simp [intOf]; omega⟩
        · have hk1' : (k == 1) = false := by simpa using hk1
          by_cases hk2 : k = 2
          · subst hk2
            have KB := Kp.mk (And.intro ((HBM.out).old (.cells #[.int .i64 2, .int .i64 n] 38)) (And.intro (Blk.new wr (.cells #[.int .i64 2, .int .i64 n] 38)) (HO.out.more (more (Below.refl _ _) (.cells #[.int .i64 2, .int .i64 n] 38)))))
            have e0 : ((2 : Int) == 0) = false := by decide
            have e1 : ((2 : Int) == 1) = false := by decide
            go_wp2_with (refine wpList_load_row rfl 35 (.tmp 7) rfl M rfl 35 _ (0, 0) _ ((HBM.out).old _) Try.underlying35 rfl info35 ?_)
            have hR := fun w1 => rhold_any s n w1
            unfold TS.val RTPost at hR
            refine (hR _).mono ?_
            clear hR hd0 hd1
            rintro r w2 ⟨rfl, hb⟩
            replace KB := Kp.mk (And.intro (KB.out.1.keep hb) (And.intro (KB.out.2.1.keep hb) (KB.out.2.2.more hb)))
            clear hb
            generalize wr.heap.size = B at KB ⊢
            have HS2 := Kp.mk (HS.out.hold n)
            obtain ⟨s2, hs2⟩ : ∃ s2, s2 = holdS s n := ⟨_, rfl⟩
            obtain ⟨E, hE⟩ : ∃ E, E = holdE s n := ⟨_, rfl⟩
            have HS2E := Kp.mk (And.intro hs2 hE)
            rw [← hs2] at HS2
            rw [← hs2, ← hE]
            clear hs2 hE
            unfold TS.val
            obtain ⟨c0, c1, -⟩ := KB.out.2.1.two
            clear c0 c1
            go_wp2_with (first
              | (refine wpList_store_row rfl 35 (.tmp 7) (.tmp 92) rfl M #[.int .i64 s2.a, .int .i64 s2.b, .int .i64 s2.c, .int .i64 s2.d, .int .i64 s2.f, .int .i64 s2.g, .int .i64 s2.o] rfl rfl 35 _ KB.out.1 info35 rfl (seven_one _ _ _ _ _ _ _) ?_
                 refine wpl_world (fun w3 => Blk w3 M s2.mobj ∧ Blk w3 B (.cells #[.int .i64 2, .int .i64 n] 38) ∧ Own w t s w3) ⟨Blk.setRow KB.out.1 _, (setRow_other _ _ _ _ (cells_ne KB.out.2.1 KB.out.1 (by decide))).trans KB.out.2.1, KB.out.2.2.setRow HM.out.1 HM.out.2 _⟩ ?_
                 intro w3 hw3
                 have K3 := Kp.mk hw3
                 obtain ⟨c0, c1, -⟩ := hw3.2.1.two
                 clear hw3))
            refine (hold_any t s n _ K3.out.2.2.blk).mono ?_
            rintro r w4 ⟨rfl, hT⟩
            rw [← HS2E.out.1] at hT
            rw [← HS2E.out.2]
            have K4 := Kp.mk (And.intro (hT.keep K3.out.1 HM.out.2.symm) (K3.out.2.2.step hT))
            clear hT c0 c1
            go_wp2_with fail
            refine (left_any t s2 _ K4.out.2.blk).mono ?_
            rintro r w5 ⟨rfl, nd, rfl⟩
            replace K4 := Kp.mk (And.intro (Blk.drewN K4.out.1 nd) (K4.out.2.drewN nd))
            obtain ⟨m0, m1, m2, m3, m4, m5, m6, -⟩ := K4.out.1.seven
            clear m0 m1 m2 m3 m6
            go_wp2_with fail
            exact ⟨⟨j + 1, s2, by omega, by first | rfl | go_num, HS2, ⟨K4.out.1⟩, ⟨K4.out.2⟩⟩, by simp [intOf]; omega⟩
          · have hk2' : (k == 2) = false := by simpa using hk2
            by_cases hk3 : k = 3
            · subst hk3
              have KB := Kp.mk (And.intro ((HBM.out).old (.cells #[.int .i64 3, .int .i64 n] 38)) (And.intro (Blk.new wr (.cells #[.int .i64 3, .int .i64 n] 38)) (HO.out.more (more (Below.refl _ _) (.cells #[.int .i64 3, .int .i64 n] 38)))))
              have e0 : ((3 : Int) == 0) = false := by decide
              have e1 : ((3 : Int) == 1) = false := by decide
              have e2 : ((3 : Int) == 2) = false := by decide
              go_wp2_with (refine wpList_load_row rfl 35 (.tmp 7) rfl M rfl 35 _ (0, 0) _ ((HBM.out).old _) Try.underlying35 rfl info35 ?_)
              have hR := fun w1 => rsettle_any s n w1
              unfold TS.val RTPost at hR
              refine (hR _).mono ?_
              clear hR hd0 hd1
              rintro r w2 ⟨rfl, hb⟩
              replace KB := Kp.mk (And.intro (KB.out.1.keep hb) (And.intro (KB.out.2.1.keep hb) (KB.out.2.2.more hb)))
              clear hb
              generalize wr.heap.size = B at KB ⊢
              have HS2 := Kp.mk (HS.out.settle n)
              obtain ⟨s2, hs2⟩ : ∃ s2, s2 = settleS s n := ⟨_, rfl⟩
              obtain ⟨E, hE⟩ : ∃ E, E = settleE s n := ⟨_, rfl⟩
              have HS2E := Kp.mk (And.intro hs2 hE)
              rw [← hs2] at HS2
              rw [← hs2, ← hE]
              clear hs2 hE
              unfold TS.val
              obtain ⟨c0, c1, -⟩ := KB.out.2.1.two
              clear c0 c1
              go_wp2_with (first
                | (refine wpList_store_row rfl 35 (.tmp 7) (.tmp 105) rfl M #[.int .i64 s2.a, .int .i64 s2.b, .int .i64 s2.c, .int .i64 s2.d, .int .i64 s2.f, .int .i64 s2.g, .int .i64 s2.o] rfl rfl 35 _ KB.out.1 info35 rfl (seven_one _ _ _ _ _ _ _) ?_
                   refine wpl_world (fun w3 => Blk w3 M s2.mobj ∧ Blk w3 B (.cells #[.int .i64 3, .int .i64 n] 38) ∧ Own w t s w3) ⟨Blk.setRow KB.out.1 _, (setRow_other _ _ _ _ (cells_ne KB.out.2.1 KB.out.1 (by decide))).trans KB.out.2.1, KB.out.2.2.setRow HM.out.1 HM.out.2 _⟩ ?_
                   intro w3 hw3
                   have K3 := Kp.mk hw3
                   obtain ⟨c0, c1, -⟩ := hw3.2.1.two
                   clear hw3))
              refine (settle_any t s n _ K3.out.2.2.blk).mono ?_
              rintro r w4 ⟨rfl, hT⟩
              rw [← HS2E.out.1] at hT
              rw [← HS2E.out.2]
              have K4 := Kp.mk (And.intro (hT.keep K3.out.1 HM.out.2.symm) (K3.out.2.2.step hT))
              clear hT c0 c1
              go_wp2_with fail
              refine (left_any t s2 _ K4.out.2.blk).mono ?_
              rintro r w5 ⟨rfl, nd, rfl⟩
              replace K4 := Kp.mk (And.intro (Blk.drewN K4.out.1 nd) (K4.out.2.drewN nd))
              obtain ⟨m0, m1, m2, m3, m4, m5, m6, -⟩ := K4.out.1.seven
              clear m0 m1 m2 m3 m6
              go_wp2_with fail
              exact ⟨⟨j + 1, s2, by omega, by first | rfl | go_num, HS2, ⟨K4.out.1⟩, ⟨K4.out.2⟩⟩, by simp [intOf]; omega⟩
            · have hk3' : (k == 3) = false := by simpa using hk3
              have KB := Kp.mk (And.intro ((HBM.out).old (.cells #[.int .i64 k, .int .i64 n] 38)) (HO.out.more (more (Below.refl _ _) (.cells #[.int .i64 k, .int .i64 n] 38))))
              clear hk0 hk1 hk2 hk3
              go_wp2_with fail
              refine (left_any t s _ KB.out.2.blk).mono ?_
              rintro r w5 ⟨rfl, nd, rfl⟩
              replace KB := Kp.mk (And.intro (Blk.drewN KB.out.1 nd) (KB.out.2.drewN nd))
              obtain ⟨m0, m1, m2, m3, m4, m5, m6, -⟩ := KB.out.1.seven
              clear m0 m1 m2 m3 m6
              go_wp2_with fail
              exact ⟨⟨j + 1, s, by omega, by first | rfl | go_num, HS, ⟨KB.out.1⟩, ⟨KB.out.2⟩⟩, by simp [intOf]; omega⟩
    · go_wp2_with fail
      go_ret
      exact ⟨rfl, HO.out.hb⟩
theorem tollPlays_walk (a b c d : Int) (ad : Option Addr) (len cap : Nat) (f : Nat → Int × Int) (w : World) (_ : (Lit.int .i64 a).wf = true) (_ : (Lit.int .i64 b).wf = true) (_ : (Lit.int .i64 c).wf = true) (_ : (Lit.int .i64 d).wf = true) (hops : IsOps w ad len f) :
    Calls Try.prog 3 #[.agg #[.int .i64 a, .int .i64 b, .int .i64 c, .int .i64 d], .slice ad len cap] w fun r w' => r = .returned (.bool true) ∧ Below w.heap.size w w' := by
  by_cases h : rightV a b c d = true
  · exact plays_yes a b c d ad len cap f w h hops
  · exact plays_no a b c d ad len cap w (by simpa using h)
end Go.Proofs.Ythhdbniliimonaa
