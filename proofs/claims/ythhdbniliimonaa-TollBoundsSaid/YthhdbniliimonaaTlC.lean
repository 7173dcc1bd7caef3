/-
  The contracts of the toll's Tick and Settle.
-/
import Derived.Test.YthhdbniliimonaaTlB
namespace Go.Proofs.Ythhdbniliimonaa
open Go.RowKit

set_option maxHeartbeats 1600000 in
theorem tick_any (b : Nat) (s : TS) (n : Int) (w : World) (h : Blk w b s.obj) :
    Calls Try.prog 14 #[.pointer (some ⟨b, 0, none⟩), .int .i64 n] w (TPost b (tickE n) (tickS s n) w) := by
  obtain ⟨a, b1, c, d, f, g, o⟩ := s
  obtain ⟨c0, c1, c2, c3, c4, c5, c6, f4, f5, f6⟩ := Blk.seven h
  have HB := Kp.mk h
  clear h
  by_cases hn : n < 0
  · have HE : Kp (tickE n = 1 ∧ tickS ⟨a, b1, c, d, f, g, o⟩ n = ⟨a, b1, c, d, f, g, o⟩) := ⟨by simp [tickE, tickS, hn]⟩
    go_enter Try.func14, Try.ntmps14
    go_wp2_with fail
    refine (wrong_no b n hn _).mono ?_
    rintro r w1 ⟨rfl, rfl⟩
    go_wp2_with fail
    go_ret
    exact ⟨reti HE.out.1.symm, by rw [HE.out.2]; exact Turn.same HB.out⟩
  · have hn' : 0 ≤ n := by omega
    have HE : Kp (tickE n = 0 ∧ tickS ⟨a, b1, c, d, f, g, o⟩ n = ⟨a, b1, c, d, fillV f a b1 n, fillV g c d n, o⟩) := ⟨by simp [tickE, tickS, hn]⟩
    clear hn
    go_enter Try.func14, Try.ntmps14
    go_wp2_with fail
    refine (wrong_yes b n hn' _).mono ?_
    rintro r w1 ⟨rfl, rfl⟩
    go_wp2_with fail
    refine wp_region_flow_vars (fun w' => Turn b (tollObj a b1 c d f g o) w w' ∧ Blk w' b (tollObj a b1 c d f g o)) [0, 1, 2, 3, 4, 5, 6, 7, 8, 9, 10, 11, 12, 13, 14, 15, 16, 17, 18] [] [19] (fun _ => .cells #[] 0) (by kernel_rfl) (by kernel_rfl) (by kernel_rfl) (by decide)
      (fun _ _ h hb => ⟨h.1.more (Below.mono hb (Nat.le_refl _)), h.2.keep hb⟩)
      ⟨(Turn.same HB.out).drew, HB.out.draw⟩ (by simp) (by decide) ?_
    refine flowN_sel _ _ (by decide) ?_
    simp only [sel, List.filterMap_cons, List.filterMap_nil, List.getElem?_toArray, List.getElem?_cons_succ, List.getElem?_cons_zero]
    repeat (first
      | (apply Flow.value
         · rfl
         · (intro wx hS; obtain ⟨c0, c1, c2, c3, c4, c5, c6, -⟩ := hS.2.seven; go_simp; with_reducible rfl)
         try simp only [Act.put, List.setIfInBounds_toArray, List.set_cons_zero, List.set_cons_succ])
      | (apply Flow.call
         · rfl
         · intro wx hS; go_simp; constructor <;> with_reducible rfl
         · intro wx hS; exact (filled_any f a b1 n wx).mono (by rintro r w9 ⟨h1, rfl⟩; exact ⟨h1, Below.refl _ _⟩)
         simp only [Act.put, List.setIfInBounds_toArray, List.set_cons_zero, List.set_cons_succ]))
    refine Flow.done ?_
    intro γ w2 hS hk hg
    simp only [putNew]
    obtain ⟨c0, c1, c2, c3, c4, c5, c6, f4, f5, f6⟩ := hS.2.seven
    refine wpOps_step rfl (by rfl) ?_
    go_simp
    refine wpOps_done ?_
    have hT3 := (hS.1.set 4 (.int .i64 (fillV f a b1 n))).as (o' := tollObj a b1 c d (fillV f a b1 n) g o) rfl
    have HT3 := Kp.mk hT3
    clear hS hk hg c0 c1 c2 c3 c4 c5 c6 f4 f5 f6
    revert HT3
    generalize World.setCell _ _ _ = w3
    intro HT3
    have hB3 := HT3.out.blk
    obtain ⟨c0, c1, c2, c3, c4, c5, c6, f4, f5, f6⟩ := hB3.seven
    clear hT3 hB3
    go_wp2_with fail
    refine wp_region_flow_vars (fun w' => Turn b (tollObj a b1 c d (fillV f a b1 n) g o) w w' ∧ Blk w' b (tollObj a b1 c d (fillV f a b1 n) g o)) [0, 1, 2, 3, 4, 5, 6, 7, 8, 9, 10, 11, 12, 13, 14, 15, 16, 17, 18] [] [19] (fun _ => .cells #[] 0) (by kernel_rfl) (by kernel_rfl) (by kernel_rfl) (by decide)
      (fun _ _ h hb => ⟨h.1.more (Below.mono hb (Nat.le_refl _)), h.2.keep hb⟩)
      ⟨HT3.out.drew, HT3.out.blk.draw⟩ (by simp) (by decide) ?_
    refine flowN_sel _ _ (by decide) ?_
    simp only [sel, List.filterMap_cons, List.filterMap_nil, List.getElem?_toArray, List.getElem?_cons_succ, List.getElem?_cons_zero]
    repeat (first
      | (apply Flow.value
         · rfl
         · (intro wx hS; obtain ⟨c0, c1, c2, c3, c4, c5, c6, -⟩ := hS.2.seven; go_simp; with_reducible rfl)
         try simp only [Act.put, List.setIfInBounds_toArray, List.set_cons_zero, List.set_cons_succ])
      | (apply Flow.call
         · rfl
         · intro wx hS; go_simp; constructor <;> with_reducible rfl
         · intro wx hS; exact (filled_any g c d n wx).mono (by rintro r w9 ⟨h1, rfl⟩; exact ⟨h1, Below.refl _ _⟩)
         simp only [Act.put, List.setIfInBounds_toArray, List.set_cons_zero, List.set_cons_succ]))
    refine Flow.done ?_
    intro γ w2 hS hk hg
    simp only [putNew]
    obtain ⟨c0, c1, c2, c3, c4, c5, c6, f4, f5, f6⟩ := hS.2.seven
    refine wpOps_step rfl (by rfl) ?_
    go_simp
    refine wpOps_done ?_
    have hT4 := (hS.1.set 5 (.int .i64 (fillV g c d n))).as (o' := tollObj a b1 c d (fillV f a b1 n) (fillV g c d n) o) rfl
    have HT4 := Kp.mk hT4
    clear hS hk hg c0 c1 c2 c3 c4 c5 c6 f4 f5 f6 hT4
    go_wp2_with fail
    go_ret
    exact ⟨reti HE.out.1.symm, by rw [HE.out.2]; exact HT4.out⟩
set_option maxHeartbeats 1600000 in
theorem settle_any (b : Nat) (s : TS) (n : Int) (w : World) (h : Blk w b s.obj) :
    Calls Try.prog 20 #[.pointer (some ⟨b, 0, none⟩), .int .i64 n] w (TPost b (settleE s n) (settleS s n) w) := by
  obtain ⟨a, b1, c, d, f, g, o⟩ := s
  obtain ⟨c0, c1, c2, c3, c4, c5, c6, f4, f5, f6⟩ := Blk.seven h
  have HB := Kp.mk h
  clear h
  by_cases hn : n < 0
  · have HE : Kp (settleE ⟨a, b1, c, d, f, g, o⟩ n = 1 ∧ settleS ⟨a, b1, c, d, f, g, o⟩ n = ⟨a, b1, c, d, f, g, o⟩) := ⟨by simp [settleE, settleS, hn]⟩
    go_enter Try.func20, Try.ntmps20
    go_wp2_with fail
    refine (wrong_no b n hn _).mono ?_
    rintro r w1 ⟨rfl, rfl⟩
    go_wp2_with fail
    go_ret
    exact ⟨reti HE.out.1.symm, by rw [HE.out.2]; exact Turn.same HB.out⟩
  · have hn' : 0 ≤ n := by omega
    by_cases hf : o < n
    · have HE : Kp (settleE ⟨a, b1, c, d, f, g, o⟩ n = 1 ∧ settleS ⟨a, b1, c, d, f, g, o⟩ n = ⟨a, b1, c, d, f, g, o⟩) := ⟨by simp [settleE, settleS, hn, hf]⟩
      clear hn
      go_enter Try.func20, Try.ntmps20
      go_wp2_with fail
      refine (wrong_yes b n hn' _).mono ?_
      rintro r w1 ⟨rfl, rfl⟩
      go_wp2_with fail
      go_ret
      exact ⟨reti HE.out.1.symm, by rw [HE.out.2]; exact Turn.same HB.out⟩
    · have HE : Kp (settleE ⟨a, b1, c, d, f, g, o⟩ n = 0 ∧ settleS ⟨a, b1, c, d, f, g, o⟩ n = ⟨a, b1, c, d, f, min (wrap64 (wrap64 (g + o) - n)) c, 0⟩) := ⟨by simp [settleE, settleS, hn, hf]⟩
      have t1 : n ≤ o := by omega
      clear hf hn
      obtain ⟨V, hV⟩ : ∃ V, V = min (wrap64 (wrap64 (g + o) - n)) c := ⟨_, rfl⟩
      rw [← hV] at HE
      have hm : (c < wrap64 (wrap64 (g + o) - n) ∧ V = c) ∨ (wrap64 (wrap64 (g + o) - n) ≤ c ∧ V = wrap64 (wrap64 (g + o) - n)) := by omega
      clear hV
      have e1 : IntKind.i64.wrap (IntKind.i64.wrap (g + o) - n) = wrap64 (wrap64 (g + o) - n) := by rw [IntWalk.i64_left, IntWalk.i64_left]
      obtain ⟨X, hX⟩ : ∃ X, X = wrap64 (wrap64 (g + o) - n) := ⟨_, rfl⟩
      rw [← hX] at hm e1
      have e2 := hX.symm
      clear hX
      rcases hm with ⟨hm, hV⟩ | ⟨hm, hV⟩
      · have HM := Kp.mk hm
        have HV := Kp.mk hV
        rw [hV] at HE
        have e3 : min (IntKind.i64.wrap (IntKind.i64.wrap (g + o) - n)) c = c := by rw [e1]; omega
        clear hV
        go_enter Try.func20, Try.ntmps20
        go_wp2_with fail
        refine (wrong_yes b n hn' _).mono ?_
        rintro r w1 ⟨rfl, rfl⟩
        go_wp2_with fail
        refine wp_region_flow_vars (fun w' => Turn b (tollObj a b1 c d f g o) w w' ∧ Blk w' b (tollObj a b1 c d f g o)) [0, 1, 2, 3, 4, 5, 6, 7, 8, 9, 10, 11, 12, 13, 14, 15, 16, 17, 18, 19] [] [20] (fun _ => .cells #[] 0) (by kernel_rfl) (by kernel_rfl) (by kernel_rfl) (by decide)
          (fun _ _ h hb => ⟨h.1.more (Below.mono hb (Nat.le_refl _)), h.2.keep hb⟩)
          ⟨(Turn.same HB.out).drew, HB.out.draw⟩ (by simp) (by decide) ?_
        refine flowN_sel _ _ (by decide) ?_
        simp only [sel, List.filterMap_cons, List.filterMap_nil, List.getElem?_toArray, List.getElem?_cons_succ, List.getElem?_cons_zero]
        repeat (first
          | (apply Flow.value
             · rfl
             · (intro wx hS; obtain ⟨c0, c1, c2, c3, c4, c5, c6, -⟩ := hS.2.seven; go_simp; (try rw [e3]); with_reducible rfl)
             try simp only [Act.put, List.setIfInBounds_toArray, List.set_cons_zero, List.set_cons_succ]))
        refine Flow.done ?_
        intro γ w2 hS hk hg
        simp only [putNew]
        obtain ⟨c0, c1, c2, c3, c4, c5, c6, f4, f5, f6⟩ := hS.2.seven
        refine wpOps_step rfl (by rfl) ?_
        go_simp
        refine wpOps_done ?_
        have hT3 := (hS.1.set 5 (.int .i64 (c))).as (o' := tollObj a b1 c d f (c) o) rfl
        have HT3 := Kp.mk hT3
        have hB3 := hT3.blk
        obtain ⟨c0, c1, c2, c3, c4, c5, c6, f4, f5, f6⟩ := hB3.seven
        clear hS hk hg hT3 hB3
        go_wp2_with fail
        go_ret
        exact ⟨reti HE.out.1.symm, by rw [HE.out.2]; exact (HT3.out.set 6 _).as rfl⟩
      · have HM := Kp.mk hm
        have HV := Kp.mk hV
        rw [hV] at HE
        have e3 : min (IntKind.i64.wrap (IntKind.i64.wrap (g + o) - n)) c = X := by rw [e1]; omega
        clear hV
        go_enter Try.func20, Try.ntmps20
        go_wp2_with fail
        refine (wrong_yes b n hn' _).mono ?_
        rintro r w1 ⟨rfl, rfl⟩
        go_wp2_with fail
        refine wp_region_flow_vars (fun w' => Turn b (tollObj a b1 c d f g o) w w' ∧ Blk w' b (tollObj a b1 c d f g o)) [0, 1, 2, 3, 4, 5, 6, 7, 8, 9, 10, 11, 12, 13, 14, 15, 16, 17, 18, 19] [] [20] (fun _ => .cells #[] 0) (by kernel_rfl) (by kernel_rfl) (by kernel_rfl) (by decide)
          (fun _ _ h hb => ⟨h.1.more (Below.mono hb (Nat.le_refl _)), h.2.keep hb⟩)
          ⟨(Turn.same HB.out).drew, HB.out.draw⟩ (by simp) (by decide) ?_
        refine flowN_sel _ _ (by decide) ?_
        simp only [sel, List.filterMap_cons, List.filterMap_nil, List.getElem?_toArray, List.getElem?_cons_succ, List.getElem?_cons_zero]
        repeat (first
          | (apply Flow.value
             · rfl
             · (intro wx hS; obtain ⟨c0, c1, c2, c3, c4, c5, c6, -⟩ := hS.2.seven; go_simp; (try rw [e3]); with_reducible rfl)
             try simp only [Act.put, List.setIfInBounds_toArray, List.set_cons_zero, List.set_cons_succ]))
        refine Flow.done ?_
        intro γ w2 hS hk hg
        simp only [putNew]
        obtain ⟨c0, c1, c2, c3, c4, c5, c6, f4, f5, f6⟩ := hS.2.seven
        refine wpOps_step rfl (by rfl) ?_
        go_simp
        refine wpOps_done ?_
        have hT3 := (hS.1.set 5 (.int .i64 (X))).as (o' := tollObj a b1 c d f (X) o) rfl
        have HT3 := Kp.mk hT3
        have hB3 := hT3.blk
        obtain ⟨c0, c1, c2, c3, c4, c5, c6, f4, f5, f6⟩ := hB3.seven
        clear hS hk hg hT3 hB3
        go_wp2_with fail
        go_ret
        exact ⟨reti HE.out.1.symm, by rw [HE.out.2]; exact (HT3.out.set 6 _).as rfl⟩
end Go.Proofs.Ythhdbniliimonaa
