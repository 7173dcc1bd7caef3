/-
  The contracts of Hop and Next, of rank and of fingerpostref01: what each answers, and that it leaves all old memory as it was.
-/
import Derived.Test.YtoembbdjpelogaaRank
import Derived.Test.YtoembbdjpelogaaFlow
import Derived.Outline
import Derived.LoopTactic
namespace Go.Proofs.Ytoembbdjpelogaa
open Go.RowKit

theorem hop_no {e s m : Int} (h : rightB e s m = false) : hopE e s m = 0 ∧ hopS e s m = 0 ∧ hopM e s m = 0 ∧ hopR e s m = 1 := by simp [hopE, hopS, hopM, hopR, h]
theorem hop_far {e s m : Int} (h : rightB e s m = true) (hm : (m == 15) = true) : hopE e s m = 0 ∧ hopS e s m = 0 ∧ hopM e s m = 0 ∧ hopR e s m = 8 := by simp [hopE, hopS, hopM, hopR, h, hm]
theorem hop_yes {e s m : Int} (h : rightB e s m = true) (hm : (m == 15) = false) : hopE e s m = e ∧ hopS e s m = s ∧ hopM e s m = m + 1 ∧ hopR e s m = 0 := by simp [hopE, hopS, hopM, hopR, h, hm]

def HopPost (w : World) (e s m : Int) (r : Ending) (w' : World) : Prop :=
  r = .returned (.tuple #[.agg #[.int .u32 (hopE e s m), .int .u32 (hopS e s m), .int .i64 (hopM e s m)], .int .i64 (hopR e s m)]) ∧ Below w.heap.size w w'


set_option maxHeartbeats 400000 in
theorem hop_any (e s m : Int) (w : World) : Calls Try.prog 21 #[.agg #[.int .u32 e, .int .u32 s, .int .i64 m]] w (HopPost w e s m) := by
  by_cases hr : rightB e s m = true
  · have hb := right_is hr
    have hm1 : 0 ≤ m := hb.2.2.1
    have hm2 : m ≤ 15 := hb.2.2.2
    clear hb
    by_cases hm : (m == 15) = true
    · obtain ⟨q0, q1, q2, q3⟩ := hop_far hr hm
      have HQ : HopPost w e s m = fun r w' => r = .returned (.tuple #[.agg #[.int .u32 0, .int .u32 0, .int .i64 0], .int .i64 8]) ∧ Below w.heap.size w w' := by unfold HopPost; rw [q0, q1, q2, q3]
      rw [HQ]
      clear HQ q0 q1 q2 q3
      go_enter Try.func21, Try.ntmps21
      go_wp2_with fail
      refine (right_any _ _ _ _).mono ?_
      rintro r w1 ⟨rfl, hb⟩
      obtain ⟨hbel, hsz, b1, b2⟩ := after_two hb
      obtain ⟨c0, c1, c2, f0, f1, f2⟩ := b1.three
      obtain ⟨d0, d1, d2, g0, g1, g2⟩ := b2.three
      clear hb b1 b2
      go_wp2_with fail
      refine bodyPost_ret (v := .tuple #[.agg #[.int .u32 0, .int .u32 0, .int .i64 0], .int .i64 8]) (by simp [results, Try.results21, go_sem, d0, d1, d2]) rfl ⟨rfl, ?_⟩
      repeat (first | exact hbel | refine Below.setCell ?_ (by simp) _)
    · have hm' : (m == 15) = false := by simpa using hm
      clear hm
      obtain ⟨q0, q1, q2, q3⟩ := hop_yes hr hm'
      have HQ : HopPost w e s m = fun r w' => r = .returned (.tuple #[.agg #[.int .u32 e, .int .u32 s, .int .i64 (m + 1)], .int .i64 0]) ∧ Below w.heap.size w w' := by unfold HopPost; rw [q0, q1, q2, q3]
      rw [HQ]
      clear HQ q0 q1 q2 q3
      go_enter Try.func21, Try.ntmps21
      go_wp2_with fail
      refine (right_any _ _ _ _).mono ?_
      rintro r w1 ⟨rfl, hb⟩
      obtain ⟨hbel, hsz, b1, b2⟩ := after_two hb
      obtain ⟨c0, c1, c2, f0, f1, f2⟩ := b1.three
      obtain ⟨d0, d1, d2, g0, g1, g2⟩ := b2.three
      clear hb b1 b2
      go_wp2_with fail
      refine bodyPost_ret (v := .tuple #[.agg #[.int .u32 e, .int .u32 s, .int .i64 (m + 1)], .int .i64 0]) (by simp [results, Try.results21, go_sem, d0, d1, d2, c0, c1, c2]) rfl ⟨rfl, ?_⟩
      repeat (first | exact hbel | refine Below.setCell ?_ (by simp) _)
  · have hr' : rightB e s m = false := by simpa using hr
    clear hr
    obtain ⟨q0, q1, q2, q3⟩ := hop_no hr'
    have HQ : HopPost w e s m = fun r w' => r = .returned (.tuple #[.agg #[.int .u32 0, .int .u32 0, .int .i64 0], .int .i64 1]) ∧ Below w.heap.size w w' := by unfold HopPost; rw [q0, q1, q2, q3]
    rw [HQ]
    clear HQ q0 q1 q2 q3
    go_enter Try.func21, Try.ntmps21
    go_wp2_with fail
    refine (right_any _ _ _ _).mono ?_
    rintro r w1 ⟨rfl, hb⟩
    obtain ⟨hbel, hsz, b1, b2⟩ := after_two hb
    obtain ⟨c0, c1, c2, f0, f1, f2⟩ := b1.three
    obtain ⟨d0, d1, d2, g0, g1, g2⟩ := b2.three
    clear hb b1 b2
    go_wp2_with fail
    refine bodyPost_ret (v := .tuple #[.agg #[.int .u32 0, .int .u32 0, .int .i64 0], .int .i64 1]) (by simp [results, Try.results21, go_sem, d0, d1, d2]) rfl ⟨rfl, ?_⟩
    repeat (first | exact hbel | refine Below.setCell ?_ (by simp) _)

set_option maxHeartbeats 400000 in
theorem refHop_any (e s m : Int) (w : World) : Calls Try.prog 22 #[.agg #[.int .u32 e, .int .u32 s, .int .i64 m]] w (HopPost w e s m) := by
  by_cases hr : rightB e s m = true
  · have hb := right_is hr
    have hm1 : 0 ≤ m := hb.2.2.1
    have hm2 : m ≤ 15 := hb.2.2.2
    clear hb
    by_cases hm : (m == 15) = true
    · obtain ⟨q0, q1, q2, q3⟩ := hop_far hr hm
      have HQ : HopPost w e s m = fun r w' => r = .returned (.tuple #[.agg #[.int .u32 0, .int .u32 0, .int .i64 0], .int .i64 8]) ∧ Below w.heap.size w w' := by unfold HopPost; rw [q0, q1, q2, q3]
      rw [HQ]
      clear HQ q0 q1 q2 q3
      go_enter Try.func22, Try.ntmps22
      go_wp2_with fail
      refine (refRight_any _ _ _ _).mono ?_
      rintro r w1 ⟨rfl, hb⟩
      obtain ⟨hbel, hsz, b1, b2⟩ := after_two hb
      obtain ⟨c0, c1, c2, f0, f1, f2⟩ := b1.three
      obtain ⟨d0, d1, d2, g0, g1, g2⟩ := b2.three
      clear hb b1 b2
      go_wp2_with fail
      refine bodyPost_ret (v := .tuple #[.agg #[.int .u32 0, .int .u32 0, .int .i64 0], .int .i64 8]) (by simp [results, Try.results22, go_sem, d0, d1, d2]) rfl ⟨rfl, ?_⟩
      repeat (first | exact hbel | refine Below.setCell ?_ (by simp) _)
    · have hm' : (m == 15) = false := by simpa using hm
      clear hm
      obtain ⟨q0, q1, q2, q3⟩ := hop_yes hr hm'
      have HQ : HopPost w e s m = fun r w' => r = .returned (.tuple #[.agg #[.int .u32 e, .int .u32 s, .int .i64 (m + 1)], .int .i64 0]) ∧ Below w.heap.size w w' := by unfold HopPost; rw [q0, q1, q2, q3]
      rw [HQ]
      clear HQ q0 q1 q2 q3
      go_enter Try.func22, Try.ntmps22
      go_wp2_with fail
      refine (refRight_any _ _ _ _).mono ?_
      rintro r w1 ⟨rfl, hb⟩
      obtain ⟨hbel, hsz, b1, b2⟩ := after_two hb
      obtain ⟨c0, c1, c2, f0, f1, f2⟩ := b1.three
      obtain ⟨d0, d1, d2, g0, g1, g2⟩ := b2.three
      clear hb b1 b2
      go_wp2_with fail
      refine bodyPost_ret (v := .tuple #[.agg #[.int .u32 e, .int .u32 s, .int .i64 (m + 1)], .int .i64 0]) (by simp [results, Try.results22, go_sem, d0, d1, d2, c0, c1, c2]) rfl ⟨rfl, ?_⟩
      repeat (first | exact hbel | refine Below.setCell ?_ (by simp) _)
  · have hr' : rightB e s m = false := by simpa using hr
    clear hr
    obtain ⟨q0, q1, q2, q3⟩ := hop_no hr'
    have HQ : HopPost w e s m = fun r w' => r = .returned (.tuple #[.agg #[.int .u32 0, .int .u32 0, .int .i64 0], .int .i64 1]) ∧ Below w.heap.size w w' := by unfold HopPost; rw [q0, q1, q2, q3]
    rw [HQ]
    clear HQ q0 q1 q2 q3
    go_enter Try.func22, Try.ntmps22
    go_wp2_with fail
    refine (refRight_any _ _ _ _).mono ?_
    rintro r w1 ⟨rfl, hb⟩
    obtain ⟨hbel, hsz, b1, b2⟩ := after_two hb
    obtain ⟨c0, c1, c2, f0, f1, f2⟩ := b1.three
    obtain ⟨d0, d1, d2, g0, g1, g2⟩ := b2.three
    clear hb b1 b2
    go_wp2_with fail
    refine bodyPost_ret (v := .tuple #[.agg #[.int .u32 0, .int .u32 0, .int .i64 0], .int .i64 1]) (by simp [results, Try.results22, go_sem, d0, d1, d2]) rfl ⟨rfl, ?_⟩
    repeat (first | exact hbel | refine Below.setCell ?_ (by simp) _)

theorem pow_small {h : Int} (h0 : 0 ≤ h) (h6 : h ≤ 6) : (2 : Int) ^ h.toNat % 4294967296 = 2 ^ h.toNat ∧ 1 ≤ (2 : Int) ^ h.toNat ∧ (2 : Int) ^ h.toNat ≤ 64 := by
  have : h = 0 ∨ h = 1 ∨ h = 2 ∨ h = 3 ∨ h = 4 ∨ h = 5 ∨ h = 6 := by omega
  rcases this with rfl | rfl | rfl | rfl | rfl | rfl | rfl <;> decide
theorem nextOk_of {e s m h : Int} (hr : rightB e s m = true) (h0 : 0 ≤ h) (h6 : h ≤ 6) : nextOk e s m h = true := by simp [nextOk, hr, h0, h6]
theorem next_in {e s m h : Int} (hr : rightB e s m = true) (h0 : 0 ≤ h) (h6 : h ≤ 6) (t : s + 1 < 2 ^ h.toNat % 4294967296) : nextE e s m h = e ∧ nextS e s m h = s + 1 ∧ nextR e s m h = 0 := by
  rw [(pow_small h0 h6).1] at t
  simp [nextE, nextS, nextR, nextOk_of hr h0 h6, t]
theorem next_spent {e s m h : Int} (hr : rightB e s m = true) (h0 : 0 ≤ h) (h6 : h ≤ 6) (t : 2 ^ h.toNat % 4294967296 ≤ s + 1) (t2 : (e == 65536) = true) : nextE e s m h = 0 ∧ nextS e s m h = 0 ∧ nextR e s m h = 21 := by
  rw [(pow_small h0 h6).1] at t
  have t2 : e = 65536 := by simpa using t2
  have : ¬ s + 1 < 2 ^ h.toNat := by omega
  subst t2
  have hk := nextOk_of hr h0 h6
  simp [nextE, nextS, nextR, hk, this]
theorem next_over {e s m h : Int} (hr : rightB e s m = true) (h0 : 0 ≤ h) (h6 : h ≤ 6) (t : 2 ^ h.toNat % 4294967296 ≤ s + 1) (t2 : (e == 65536) = false) : nextE e s m h = e + 1 ∧ nextS e s m h = 0 ∧ nextR e s m h = 0 := by
  rw [(pow_small h0 h6).1] at t
  have t2 : ¬ e = 65536 := by simpa using t2
  have : ¬ s + 1 < 2 ^ h.toNat := by omega
  simp only [nextE, nextS, nextR, nextOk_of hr h0 h6, this, t2, if_true, if_false, and_self]
theorem next_no {e s m h : Int} (hn : nextOk e s m h = false) : nextE e s m h = 0 ∧ nextS e s m h = 0 ∧ nextR e s m h = 1 := by
  simp [nextE, nextS, nextR, hn]

def NextPost (w : World) (e s m h : Int) (r : Ending) (w' : World) : Prop :=
  r = .returned (.tuple #[.agg #[.int .u32 (nextE e s m h), .int .u32 (nextS e s m h), .int .i64 0], .int .i64 (nextR e s m h)]) ∧ Below w.heap.size w w'
theorem NextPost.mk {w w' : World} {e s m h a b c : Int} (q : nextE e s m h = a ∧ nextS e s m h = b ∧ nextR e s m h = c) (hb : Below w.heap.size w w') :
    NextPost w e s m h (.returned (.tuple #[.agg #[.int .u32 a, .int .u32 b, .int .i64 0], .int .i64 c])) w' := by
  obtain ⟨rfl, rfl, rfl⟩ := q
  exact ⟨rfl, hb⟩

set_option maxHeartbeats 800000 in
theorem next_any (e s m h : Int) (w : World) (he : 0 ≤ e) (hs : 0 ≤ s) : Calls Try.prog 23 #[.agg #[.int .u32 e, .int .u32 s, .int .i64 m], .int .i64 h] w (NextPost w e s m h) := by
  by_cases hr : rightB e s m = true
  · have hb := right_is hr
    have he2 : e ≤ 65536 := hb.1
    have hs2 : s < 64 := hb.2.1
    clear hb
    by_cases h0 : 0 ≤ h
    · by_cases h6 : h ≤ 6
      · go_enter Try.func23, Try.ntmps23
        go_wp2_with fail
        refine (right_any _ _ _ _).mono ?_
        rintro r w1 ⟨rfl, hb⟩
        obtain ⟨hbel, hsz, b1, b2⟩ := after_two hb
        obtain ⟨c0, c1, c2, f0, f1, f2⟩ := b1.three
        obtain ⟨d0, d1, d2, g0, g1, g2⟩ := b2.three
        clear hb b1 b2
        go_wp2_with fail
        go_quiet (fail)
        go_wp2_with fail
        · have t : s + 1 < 2 ^ h.toNat % 4294967296 := by assumption
          refine bodyPost_ret (v := .tuple #[.agg #[.int .u32 e, .int .u32 (s + 1), .int .i64 0], .int .i64 0]) (by simp [results, Try.results23, go_sem, d0, d1, d2, c0, c1, c2]) rfl (NextPost.mk (next_in hr h0 h6 t) ?_)
          repeat (first | exact hbel | refine Below.setCell ?_ (by simp) _ | refine below_drewN ?_ _)
        · have t : 2 ^ h.toNat % 4294967296 ≤ s + 1 := by assumption
          have t2 : (e == 65536) = true := by assumption
          refine bodyPost_ret (v := .tuple #[.agg #[.int .u32 0, .int .u32 0, .int .i64 0], .int .i64 21]) (by simp [results, Try.results23, go_sem, d0, d1, d2, c0, c1, c2]) rfl (NextPost.mk (next_spent hr h0 h6 t t2) ?_)
          repeat (first | exact hbel | refine Below.setCell ?_ (by simp) _ | refine below_drewN ?_ _)
        · have t : 2 ^ h.toNat % 4294967296 ≤ s + 1 := by assumption
          have t2 : (e == 65536) = false := by assumption
          refine bodyPost_ret (v := .tuple #[.agg #[.int .u32 (e + 1), .int .u32 0, .int .i64 0], .int .i64 0]) (by simp [results, Try.results23, go_sem, d0, d1, d2, c0, c1, c2]) rfl (NextPost.mk (next_over hr h0 h6 t t2) ?_)
          repeat (first | exact hbel | refine Below.setCell ?_ (by simp) _ | refine below_drewN ?_ _)
      · have hn : nextOk e s m h = false := by simp [nextOk]; omega
        have h6' : 6 < h := by omega
        go_enter Try.func23, Try.ntmps23
        go_wp2_with fail
        refine (right_any _ _ _ _).mono ?_
        rintro r w1 ⟨rfl, hb⟩
        obtain ⟨hbel, hsz, b1, b2⟩ := after_two hb
        obtain ⟨d0, d1, d2, g0, g1, g2⟩ := b2.three
        clear hb b1 b2
        go_wp2_with fail
        refine bodyPost_ret (v := .tuple #[.agg #[.int .u32 0, .int .u32 0, .int .i64 0], .int .i64 1]) (by simp [results, Try.results23, go_sem, d0, d1, d2]) rfl (NextPost.mk (next_no hn) ?_)
        repeat (first | exact hbel | refine Below.setCell ?_ (by simp) _)
    · have hn : nextOk e s m h = false := by simp [nextOk]; omega
      have h6' : h < 0 := by omega
      go_enter Try.func23, Try.ntmps23
      go_wp2_with fail
      refine (right_any _ _ _ _).mono ?_
      rintro r w1 ⟨rfl, hb⟩
      obtain ⟨hbel, hsz, b1, b2⟩ := after_two hb
      obtain ⟨d0, d1, d2, g0, g1, g2⟩ := b2.three
      clear hb b1 b2
      go_wp2_with fail
      refine bodyPost_ret (v := .tuple #[.agg #[.int .u32 0, .int .u32 0, .int .i64 0], .int .i64 1]) (by simp [results, Try.results23, go_sem, d0, d1, d2]) rfl (NextPost.mk (next_no hn) ?_)
      repeat (first | exact hbel | refine Below.setCell ?_ (by simp) _)
  · have hr' : rightB e s m = false := by simpa using hr
    clear hr
    have hn : nextOk e s m h = false := by simp [nextOk, hr']
    go_enter Try.func23, Try.ntmps23
    go_wp2_with fail
    refine (right_any _ _ _ _).mono ?_
    rintro r w1 ⟨rfl, hb⟩
    obtain ⟨hbel, hsz, b1, b2⟩ := after_two hb
    obtain ⟨d0, d1, d2, g0, g1, g2⟩ := b2.three
    clear hb b1 b2
    go_wp2_with fail
    refine bodyPost_ret (v := .tuple #[.agg #[.int .u32 0, .int .u32 0, .int .i64 0], .int .i64 1]) (by simp [results, Try.results23, go_sem, d0, d1, d2]) rfl (NextPost.mk (next_no hn) ?_)
    repeat (first | exact hbel | refine Below.setCell ?_ (by simp) _)

theorem pow_step {k : Nat} (hk : k < 6) : (2 * 2 ^ k % 4294967296 : Int) = 2 ^ (k + 1) := by
  have : k = 0 ∨ k = 1 ∨ k = 2 ∨ k = 3 ∨ k = 4 ∨ k = 5 := by omega
  rcases this with rfl | rfl | rfl | rfl | rfl | rfl <;> decide
theorem pow_less {k : Nat} (hk : k ≤ 6) : ((2 ^ k - 1) % 4294967296 : Int) = 2 ^ ((k : Int).toNat) % 4294967296 - 1 := by
  have : k = 0 ∨ k = 1 ∨ k = 2 ∨ k = 3 ∨ k = 4 ∨ k = 5 ∨ k = 6 := by omega
  rcases this with rfl | rfl | rfl | rfl | rfl | rfl | rfl <;> decide

set_option maxHeartbeats 800000 in
theorem refNext_any (e s m h : Int) (w : World) (he : 0 ≤ e) (hs : 0 ≤ s) : Calls Try.prog 24 #[.agg #[.int .u32 e, .int .u32 s, .int .i64 m], .int .i64 h] w (NextPost w e s m h) := by
  by_cases hr : rightB e s m = true
  · have hb := right_is hr
    have he2 : e ≤ 65536 := hb.1
    have hs2 : s < 64 := hb.2.1
    clear hb
    by_cases h0 : 0 ≤ h
    · by_cases h6 : h ≤ 6
      · obtain ⟨n, rfl⟩ := Int.eq_ofNat_of_zero_le h0
        have hn6 : n ≤ 6 := by omega
        go_enter Try.func24, Try.ntmps24
        go_wp2_with fail
        refine (refRight_any _ _ _ _).mono ?_
        rintro r w1 ⟨rfl, hb⟩
        obtain ⟨hbel, hsz, b1, b2⟩ := after_two hb
        obtain ⟨c0, c1, c2, f0, f1, f2⟩ := b1.three
        obtain ⟨d0, d1, d2, g0, g1, g2⟩ := b2.three
        clear hb b1 b2
        go_wp2_with fail
        go_loop [6, 7] (fun t i => ∃ k : Nat, k ≤ n ∧ i = .int .i64 k ∧ t = .int .u32 (2 ^ k)) (fun _ i => n - (intOf i).toNat)
        case atStart => exact ⟨0, Nat.zero_le _, rfl, rfl⟩
        case round =>
          obtain ⟨k, hk, rfl, rfl⟩ := hrel
          by_cases hlt : k < n
          · go_wp2_with fail
            exact ⟨⟨k + 1, by omega, by go_num, by rw [pow_step (by omega)]⟩, by simp [intOf]; omega⟩
          · have hkn : k = n := by omega
            subst hkn
            go_wp2_with fail
            · have t : s < (2 ^ k - 1) % 4294967296 := by assumption
              rw [pow_less hn6] at t
              have t' : s + 1 < 2 ^ ((k : Int).toNat) % 4294967296 := by omega
              refine bodyPost_ret (v := .tuple #[.agg #[.int .u32 e, .int .u32 (s + 1), .int .i64 0], .int .i64 0]) (by simp [results, Try.results24, go_sem, d0, d1, d2, c0, c1, c2]) rfl (NextPost.mk (next_in hr h0 h6 t') ?_)
              repeat (first | exact hbel | refine Below.setCell ?_ (by simp) _ | refine below_drewN ?_ _)
            · have t : (2 ^ k - 1) % 4294967296 ≤ s := by assumption
              rw [pow_less hn6] at t
              have t' : 2 ^ ((k : Int).toNat) % 4294967296 ≤ s + 1 := by omega
              have t2 : (e == 65536) = true := by assumption
              refine bodyPost_ret (v := .tuple #[.agg #[.int .u32 0, .int .u32 0, .int .i64 0], .int .i64 21]) (by simp [results, Try.results24, go_sem, d0, d1, d2, c0, c1, c2]) rfl (NextPost.mk (next_spent hr h0 h6 t' t2) ?_)
              repeat (first | exact hbel | refine Below.setCell ?_ (by simp) _ | refine below_drewN ?_ _)
            · have t : (2 ^ k - 1) % 4294967296 ≤ s := by assumption
              rw [pow_less hn6] at t
              have t' : 2 ^ ((k : Int).toNat) % 4294967296 ≤ s + 1 := by omega
              have t2 : (e == 65536) = false := by assumption
              refine bodyPost_ret (v := .tuple #[.agg #[.int .u32 (e + 1), .int .u32 0, .int .i64 0], .int .i64 0]) (by simp [results, Try.results24, go_sem, d0, d1, d2, c0, c1, c2]) rfl (NextPost.mk (next_over hr h0 h6 t' t2) ?_)
              repeat (first | exact hbel | refine Below.setCell ?_ (by simp) _ | refine below_drewN ?_ _)
      · have hn : nextOk e s m h = false := by simp [nextOk]; omega
        have h6' : 6 < h := by omega
        go_enter Try.func24, Try.ntmps24
        go_wp2_with fail
        refine (refRight_any _ _ _ _).mono ?_
        rintro r w1 ⟨rfl, hb⟩
        obtain ⟨hbel, hsz, b1, b2⟩ := after_two hb
        obtain ⟨d0, d1, d2, g0, g1, g2⟩ := b2.three
        clear hb b1 b2
        go_wp2_with fail
        refine bodyPost_ret (v := .tuple #[.agg #[.int .u32 0, .int .u32 0, .int .i64 0], .int .i64 1]) (by simp [results, Try.results24, go_sem, d0, d1, d2]) rfl (NextPost.mk (next_no hn) ?_)
        repeat (first | exact hbel | refine Below.setCell ?_ (by simp) _)
    · have hn : nextOk e s m h = false := by simp [nextOk]; omega
      have h6' : h < 0 := by omega
      go_enter Try.func24, Try.ntmps24
      go_wp2_with fail
      refine (refRight_any _ _ _ _).mono ?_
      rintro r w1 ⟨rfl, hb⟩
      obtain ⟨hbel, hsz, b1, b2⟩ := after_two hb
      obtain ⟨d0, d1, d2, g0, g1, g2⟩ := b2.three
      clear hb b1 b2
      go_wp2_with fail
      refine bodyPost_ret (v := .tuple #[.agg #[.int .u32 0, .int .u32 0, .int .i64 0], .int .i64 1]) (by simp [results, Try.results24, go_sem, d0, d1, d2]) rfl (NextPost.mk (next_no hn) ?_)
      repeat (first | exact hbel | refine Below.setCell ?_ (by simp) _)
  · have hr' : rightB e s m = false := by simpa using hr
    clear hr
    have hn : nextOk e s m h = false := by simp [nextOk, hr']
    go_enter Try.func24, Try.ntmps24
    go_wp2_with fail
    refine (refRight_any _ _ _ _).mono ?_
    rintro r w1 ⟨rfl, hb⟩
    obtain ⟨hbel, hsz, b1, b2⟩ := after_two hb
    obtain ⟨d0, d1, d2, g0, g1, g2⟩ := b2.three
    clear hb b1 b2
    go_wp2_with fail
    refine bodyPost_ret (v := .tuple #[.agg #[.int .u32 0, .int .u32 0, .int .i64 0], .int .i64 1]) (by simp [results, Try.results24, go_sem, d0, d1, d2]) rfl (NextPost.mk (next_no hn) ?_)
    repeat (first | exact hbel | refine Below.setCell ?_ (by simp) _)

end Go.Proofs.Ytoembbdjpelogaa
