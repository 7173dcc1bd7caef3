/-
  The walk of the law RankSteps: it returns true, and leaves all old memory as it was, whatever the numbers of the key and the height.
-/
import Derived.Test.YtoembbdjpelogaaHops
import Derived.OpenShut
namespace Go.Proofs.Ytoembbdjpelogaa
open Go.RowKit

theorem hop_split (e s m : Int) : (hopR e s m == 0) = false ∨ (hopE e s m = e ∧ hopS e s m = s ∧ hopM e s m = m + 1 ∧ hopR e s m = 0 ∧ rightB e s (m + 1) = true) := by
  by_cases hr : rightB e s m = true
  · by_cases hm : (m == 15) = true
    · exact .inl (by rw [(hop_far hr hm).2.2.2]; rfl)
    · have hm' : (m == 15) = false := by simpa using hm
      obtain ⟨q0, q1, q2, q3⟩ := hop_yes hr hm'
      have hb := right_is hr
      have : ¬ m = 15 := by simpa using hm
      exact .inr ⟨q0, q1, q2, q3, right_yes hb.1 hb.2.1 (by omega) (by omega)⟩
  · have hr' : rightB e s m = false := by simpa using hr
    exact .inl (by rw [(hop_no hr').2.2.2]; rfl)

theorem next_split (e s m h : Int) (hs : 0 ≤ s) : (nextR e s m h == 0) = false ∨ (nextE e s m h = e ∧ nextS e s m h = s + 1 ∧ nextR e s m h = 0 ∧ rightB e (s + 1) 0 = true) ∨
    (nextE e s m h = e + 1 ∧ nextS e s m h = 0 ∧ nextR e s m h = 0 ∧ rightB (e + 1) 0 0 = true) := by
  by_cases hn : nextOk e s m h = true
  · have hn' := hn
    simp only [nextOk, Bool.and_eq_true, decide_eq_true_eq] at hn'
    obtain ⟨hr, h0, h6⟩ := hn'
    have hb := right_is hr
    have hp := pow_small h0 h6
    by_cases t : s + 1 < 2 ^ h.toNat % 4294967296
    · obtain ⟨q0, q1, q2⟩ := next_in hr h0 h6 t
      rw [hp.1] at t
      exact .inr (.inl ⟨q0, q1, q2, right_yes hb.1 (by omega) (by omega) (by omega)⟩)
    · by_cases t2 : (e == 65536) = true
      · exact .inl (by rw [(next_spent hr h0 h6 (by omega) t2).2.2]; rfl)
      · have t2' : (e == 65536) = false := by simpa using t2
        obtain ⟨q0, q1, q2⟩ := next_over hr h0 h6 (by omega) t2'
        have : ¬ e = 65536 := by simpa using t2
        exact .inr (.inr ⟨q0, q1, q2, right_yes (by omega) (by omega) (by omega) (by omega)⟩)
  · have hn' : nextOk e s m h = false := by simpa using hn
    exact .inl (by rw [(next_no hn').2.2]; rfl)

set_option maxHeartbeats 3200000 in
theorem rankSteps_walk (e s m h : Int) (w : World) (we : (Lit.int .u32 e).wf = true) (ws : (Lit.int .u32 s).wf = true) (_ : (Lit.int .i64 m).wf = true) (_ : (Lit.int .i64 h).wf = true) :
    Calls Try.prog 6 #[.agg #[.int .u32 e, .int .u32 s, .int .i64 m], .int .i64 h] w fun r w' => r = .returned (.bool true) ∧ Below w.heap.size w w' := by
  have he : 0 ≤ e := (bounds_u32 we).1
  have hs : 0 ≤ s := (bounds_u32 ws).1
  clear we ws
  go_enter Try.func6, Try.ntmps6
  go_wp2_with fail
  refine (to_any _ _ _ _).mono ?_
  rintro r w1 ⟨rfl, hb⟩
  obtain ⟨hbel, -, -⟩ := after_one hb
  clear hb
  go_wp2_with fail
  refine (hop_any _ _ _ _).mono ?_
  rintro r w2 ⟨rfl, hb⟩
  obtain ⟨hb2, l2, bx⟩ := after_one hb
  have hbel2 := hbel.trans (hb2.mono hbel.size)
  obtain ⟨c0, c1, c2, -⟩ := bx.three
  have l2 := bx.lt
  clear hb hb2 hbel
  rcases hop_split e s m with q | ⟨q0, q1, q2, q3, q4⟩
  · go_wp2_with fail
    -- Next
    refine (next_any _ _ _ _ _ he hs).mono ?_
    rintro r w9 ⟨rfl, hb⟩
    have bx9 := (bx.old _).keep hb
    have hbel9 := thru (more hbel2 _) hb
    obtain ⟨c0, c1, c2, -⟩ := bx9.three
    have l9 := bx9.lt
    clear hb hbel2
    rcases next_split e s m h hs with q | ⟨q0, q1, q2, t2⟩ | ⟨q0, q1, q2, t2⟩
    · go_wp2_with fail
      refine (right_any _ _ _ _).mono ?_
      rintro r w10 ⟨rfl, hb⟩
      obtain ⟨hb10, -, -⟩ := after_one hb
      go_wp2_with fail
      go_ret
      exact ⟨rfl, hbel9.trans (hb10.mono hbel9.size)⟩
    · rw [q0, q1, q2]
      clear q0 q1 q2
      go_wp2_with fail
      refine (newer_any _ _ _ _ _ _ _).mono ?_
      rintro r w10 ⟨rfl, hb⟩
      rw [show newerB e (s + 1) e s = true from decide_eq_true (by omega)]
      obtain ⟨hb10, l10, by10⟩ := after_one hb
      have hbel10 := hbel9.trans (hb10.mono hbel9.size)
      obtain ⟨d0, d1, d2, -⟩ := by10.three
      clear hb c0 c1 c2 bx9
      go_wp2_with fail
      refine (right_any _ _ _ _).mono ?_
      rintro r w11 ⟨rfl, hb⟩
      rw [show rightB e (s + 1) 0 = true from t2]
      have hbel11 := hbel10.trans (hb.mono hbel10.size)
      clear hb d0 d1 d2
      go_wp2_with fail
      refine (right_any _ _ _ _).mono ?_
      rintro r w12 ⟨rfl, hb⟩
      go_wp2_with fail
      go_ret
      exact ⟨rfl, hbel11.trans (hb.mono hbel11.size)⟩
    · rw [q0, q1, q2]
      clear q0 q1 q2
      go_wp2_with fail
      refine (newer_any _ _ _ _ _ _ _).mono ?_
      rintro r w10 ⟨rfl, hb⟩
      rw [show newerB (e + 1) 0 e s = true from decide_eq_true (by omega)]
      obtain ⟨hb10, l10, by10⟩ := after_one hb
      have hbel10 := hbel9.trans (hb10.mono hbel9.size)
      obtain ⟨d0, d1, d2, -⟩ := by10.three
      clear hb c0 c1 c2 bx9
      go_wp2_with fail
      refine (right_any _ _ _ _).mono ?_
      rintro r w11 ⟨rfl, hb⟩
      rw [show rightB (e + 1) 0 0 = true from t2]
      have hbel11 := hbel10.trans (hb.mono hbel10.size)
      clear hb d0 d1 d2
      go_wp2_with fail
      refine (right_any _ _ _ _).mono ?_
      rintro r w12 ⟨rfl, hb⟩
      go_wp2_with fail
      go_ret
      exact ⟨rfl, hbel11.trans (hb.mono hbel11.size)⟩
  · rw [q0, q1, q2, q3]
    clear q0 q1 q2 q3
    go_wp2_with fail
    refine (compare_any _ _ _ _ _ _ _).mono ?_
    rintro r w3 ⟨rfl, hb⟩
    rw [show compareI e s m e s (m + 1) = 1 from by unfold compareI; repeat' split <;> omega]
    obtain ⟨hb3, l3, by3⟩ := after_one hb
    have bx3 := bx.keep hb3
    have hbel3 := thru hbel2 hb3
    clear hb hb3 hbel2 bx c0 c1 c2
    obtain ⟨c0, c1, c2, -⟩ := bx3.three
    obtain ⟨d0, d1, d2, -⟩ := by3.three
    go_wp2_with fail
    refine (newer_any _ _ _ _ _ _ _).mono ?_
    rintro r w4 ⟨rfl, hb⟩
    rw [show newerB e s e s = false from decide_eq_false (by omega)]
    have bx4 := bx3.keep hb
    have by4 := by3.keep hb
    have hbel4 := thru hbel3 hb
    clear hb hbel3 bx3 by3 c0 c1 c2 d0 d1 d2
    obtain ⟨c0, c1, c2, -⟩ := bx4.three
    obtain ⟨d0, d1, d2, -⟩ := by4.three
    go_wp2_with fail
    refine (right_any _ _ _ _).mono ?_
    rintro r w5 ⟨rfl, hb⟩
    rw [q4]
    have bx5 := bx4.keep hb
    have hbel5 := thru hbel4 hb
    clear hb hbel4 bx4 by4 c0 c1 c2 d0 d1 d2 q4
    obtain ⟨c0, c1, c2, -⟩ := bx5.three
    go_wp2_with fail
    -- Next
    refine (next_any _ _ _ _ _ he hs).mono ?_
    rintro r w9 ⟨rfl, hb⟩
    have bx9 := bx5.keep hb
    have hbel9 := thru hbel5 hb
    clear c0 c1 c2
    obtain ⟨c0, c1, c2, -⟩ := bx9.three
    have l9 := bx9.lt
    clear hb hbel5
    rcases next_split e s m h hs with q | ⟨q0, q1, q2, t2⟩ | ⟨q0, q1, q2, t2⟩
    · go_wp2_with fail
      refine (right_any _ _ _ _).mono ?_
      rintro r w10 ⟨rfl, hb⟩
      obtain ⟨hb10, -, -⟩ := after_one hb
      go_wp2_with fail
      go_ret
      exact ⟨rfl, hbel9.trans (hb10.mono hbel9.size)⟩
    · rw [q0, q1, q2]
      clear q0 q1 q2
      go_wp2_with fail
      refine (newer_any _ _ _ _ _ _ _).mono ?_
      rintro r w10 ⟨rfl, hb⟩
      rw [show newerB e (s + 1) e s = true from decide_eq_true (by omega)]
      obtain ⟨hb10, l10, by10⟩ := after_one hb
      have hbel10 := hbel9.trans (hb10.mono hbel9.size)
      obtain ⟨d0, d1, d2, -⟩ := by10.three
      clear hb c0 c1 c2 bx9
      go_wp2_with fail
      refine (right_any _ _ _ _).mono ?_
      rintro r w11 ⟨rfl, hb⟩
      rw [show rightB e (s + 1) 0 = true from t2]
      have hbel11 := hbel10.trans (hb.mono hbel10.size)
      clear hb d0 d1 d2
      go_wp2_with fail
      refine (right_any _ _ _ _).mono ?_
      rintro r w12 ⟨rfl, hb⟩
      go_wp2_with fail
      go_ret
      exact ⟨rfl, hbel11.trans (hb.mono hbel11.size)⟩
    · rw [q0, q1, q2]
      clear q0 q1 q2
      go_wp2_with fail
      refine (newer_any _ _ _ _ _ _ _).mono ?_
      rintro r w10 ⟨rfl, hb⟩
      rw [show newerB (e + 1) 0 e s = true from decide_eq_true (by omega)]
      obtain ⟨hb10, l10, by10⟩ := after_one hb
      have hbel10 := hbel9.trans (hb10.mono hbel9.size)
      obtain ⟨d0, d1, d2, -⟩ := by10.three
      clear hb c0 c1 c2 bx9
      go_wp2_with fail
      refine (right_any _ _ _ _).mono ?_
      rintro r w11 ⟨rfl, hb⟩
      rw [show rightB (e + 1) 0 0 = true from t2]
      have hbel11 := hbel10.trans (hb.mono hbel10.size)
      clear hb d0 d1 d2
      go_wp2_with fail
      refine (right_any _ _ _ _).mono ?_
      rintro r w12 ⟨rfl, hb⟩
      go_wp2_with fail
      go_ret
      exact ⟨rfl, hbel11.trans (hb.mono hbel11.size)⟩
end Go.Proofs.Ytoembbdjpelogaa
