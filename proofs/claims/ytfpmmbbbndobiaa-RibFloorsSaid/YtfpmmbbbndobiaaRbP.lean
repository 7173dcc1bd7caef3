/-
  What a law of breaking and coming back has of the table: the calls.
-/
import Derived.Test.YtfpmmbbbndobiaaRbN
import Derived.Test.YtfpmmbbbndobiaaRbO
namespace Go.Proofs.Ytfpmmbbbndobiaa
open Go.RowKit

theorem own_of1 {w w1 : World} {t : Nat} {h l : Int} {k : K3} (hk : krB k = true) (H : Own w t (tb0 0 h l) w1) : Calls Try.prog 36 #[.pointer (some ⟨t, 0, none⟩), .int .i64 0, .int .i64 1, keyV k] w1 fun r w' => r = .returned (.tuple #[.int .i64 5, .int .i64 0]) ∧ Own w t (t1 h l k) w' := by
  refine (own_loffer 0 1 k H).mono ?_
  rintro r w2 ⟨rfl, hK⟩
  rw [of_first h l k hk] at hK ⊢
  exact ⟨rfl, hK⟩
theorem own_break1 {w w1 : World} {t : Nat} {h l : Int} {k : K3} {at_ : Int} (hr : rtB h l = true) (ht : tmB at_ = true) (H : Own w t (t1 h l k) w1) : Calls Try.prog 19 #[.pointer (some ⟨t, 0, none⟩), .int .i64 at_, .int .i64 1] w1 fun r w' => (∃ a c, r = .returned (.slice a 1 c)) ∧ ∃ T, Down h (at_ + h) k T ∧ Own w t T w' := by
  have hh : 0 ≤ h ∧ h ≤ 1048576 := by simp [rtB] at hr; omega
  refine (own_break at_ 1 H ht hh).mono ?_
  rintro r w2 ⟨⟨a, c, rfl⟩, hK⟩
  have e : (t1 h l k).hold = h := rfl
  rw [e] at hK ⊢
  rw [drop_len1]
  exact ⟨⟨a, c, rfl⟩, _, t1_down h l k _, hK⟩
theorem own_break2 {w w1 : World} {t : Nat} {T : TB} {h l u : Int} {k : K3} {at_ : Int} (hr : rtB h l = true) (ht : tmB at_ = true) (D : Down h u k T) (H : Own w t T w1) : Calls Try.prog 19 #[.pointer (some ⟨t, 0, none⟩), .int .i64 at_, .int .i64 1] w1 fun r w' => (∃ a c, r = .returned (.slice a 0 c)) ∧ ∃ T, Down h u k T ∧ Own w t T w' := by
  have hh : 0 ≤ h ∧ h ≤ 1048576 := by simp [rtB] at hr; omega
  refine (own_break at_ 1 H ht (by rw [D.hold]; exact hh)).mono ?_
  rintro r w2 ⟨⟨a, c, rfl⟩, hK⟩
  rw [D.none]
  exact ⟨⟨a, c, rfl⟩, _, D.drop _ _ _, hK⟩
theorem own_valid {w w1 : World} {t : Nat} {T : TB} {h u : Int} {k : K3} (D : Down h u k T) (H : Own w t T w1) : Calls Try.prog 23 #[.pointer (some ⟨t, 0, none⟩)] w1 fun r w' => r = .returned (.slice none 0 0) ∧ Own w t T w' := by
  refine (valid_no (.pointer (some ⟨t, 0, none⟩)) w1 (fun d wx _ hb => (lookup_any T t d wx (H.more hb).blk H.wy).mono fun r w' ⟨h1, h2⟩ => ⟨⟨lkN T d, by rw [h1, D.lk]⟩, h2⟩)).mono ?_
  rintro r w2 ⟨rfl, hb⟩
  exact ⟨rfl, H.more hb⟩
theorem own_bad {w w1 : World} {t : Nat} {T : TB} {h u now f : Int} {k a : K3} (ht : tmB now = true) (hf : ¬ ((1 ≤ f ∧ f < 8) ∧ krB a = true)) (D : Down h u k T) (H : Own w t T w1) : Calls Try.prog 36 #[.pointer (some ⟨t, 0, none⟩), .int .i64 now, .int .i64 f, keyV a] w1 fun r w' => r = .returned (.tuple #[.int .i64 0, .int .i64 1]) ∧ Own w t T w' := by
  refine (own_loffer now f a H).mono ?_
  rintro r w2 ⟨rfl, hK⟩
  rw [D.of_bad now f a ht hf] at hK ⊢
  exact ⟨rfl, hK⟩
theorem own_hold {w w1 : World} {t : Nat} {T : TB} {h u now : Int} {k a : K3} (ht : tmB now = true) (hk : krB a = true) (hn : nwB a k = false) (hu : now < u) (D : Down h u k T) (H : Own w t T w1) : Calls Try.prog 36 #[.pointer (some ⟨t, 0, none⟩), .int .i64 now, .int .i64 1, keyV a] w1 fun r w' => r = .returned (.tuple #[.int .i64 0, .int .i64 28]) ∧ Own w t T w' := by
  refine (own_loffer now 1 a H).mono ?_
  rintro r w2 ⟨rfl, hK⟩
  rw [D.of_hold now a ht hk hn hu] at hK ⊢
  exact ⟨rfl, hK⟩
theorem own_new {w w1 : World} {t : Nat} {T : TB} {h u now f : Int} {k a : K3} (ht : tmB now = true) (h0 : 0 ≤ now) (hf : 1 ≤ f ∧ f < 8) (hk : krB a = true) (hn : ¬ (f = 1 ∧ nwB a k = false ∧ now < u)) (D : Down h u k T) (H : Own w t T w1) : Calls Try.prog 36 #[.pointer (some ⟨t, 0, none⟩), .int .i64 now, .int .i64 f, keyV a] w1 fun r w' => r = .returned (.tuple #[.int .i64 5, .int .i64 0]) ∧ ∃ T', Own w t T' w' := by
  refine (own_loffer now f a H).mono ?_
  rintro r w2 ⟨rfl, hK⟩
  obtain ⟨e1, e2⟩ := D.of_new H.wy now f a ht h0 hf hk hn
  rw [e1, e2]
  exact ⟨rfl, _, hK⟩
/-- The boxes of what came in. -/
def HB3 (w : World) (h l : Int) (k a : K3) : World := ((w.alloc (.cells #[.int .i64 h, .int .i64 l] 23)).alloc (.cells #[.int .u32 k.e, .int .u32 k.s, .int .i64 k.m] 40)).alloc (.cells #[.int .u32 a.e, .int .u32 a.s, .int .i64 a.m] 40)
theorem hb3_is (w : World) (h l : Int) (k a : K3) : Blk (HB3 w h l k a) w.heap.size (.cells #[.int .i64 h, .int .i64 l] 23) ∧ Blk (HB3 w h l k a) (w.heap.size + 1) (.cells #[.int .u32 k.e, .int .u32 k.s, .int .i64 k.m] 40) ∧ Blk (HB3 w h l k a) (w.heap.size + 1 + 1) (.cells #[.int .u32 a.e, .int .u32 a.s, .int .i64 a.m] 40) ∧ Below w.heap.size w (HB3 w h l k a) :=
  ⟨((Blk.new _ _).old _).old _, (Blk.newAt _ (by simp)).old _, Blk.newAt _ (by simp), more (more (more (Below.refl _ _) _) _) _⟩
set_option maxRecDepth 100000 in
set_option maxHeartbeats 3200000 in
theorem ribHolds_no (h l : Int) (k a : K3) (f b lt : Int) (w : World) (hb : rtB h l = false ∨ krB k = false) : Calls Try.prog 6 #[.agg #[.int .i64 h, .int .i64 l], keyV k, keyV a, .int .i64 f, .int .u16 b, .int .u16 lt] w fun r w' => r = .returned (.bool true) ∧ Below w.heap.size w w' := by
  have HR := fun w1 => rkright_any k w1
  have U := Kp.mk (hb3_is w h l k a)
  unfold HB3 at U
  cases hr : rtB h l with
  | false =>
    have HN := fun w1 => new_no 0 h l w1 (.inr ⟨by decide, hr⟩)
    clear hb hr
    obtain ⟨e, s, m⟩ := k
    obtain ⟨e', s', m'⟩ := a
    go_enter Try.func6, Try.ntmps6
    go_wp2_with fail
    refine (HN _).mono ?_
    rintro r w1 ⟨rfl, h1⟩
    have K := Kp.mk (U.out.2.2.2.trans (h1.mono U.out.2.2.2.size))
    clear h1 HN U
    go_wp2_with fail
    refine (awake_any _).mono ?_
    rintro r w2 ⟨rfl, h1⟩
    have K2 := Kp.mk (K.out.trans (h1.mono K.out.size))
    clear h1 K
    go_wp2_with fail
    refine (awake_any _).mono ?_
    rintro r w3 ⟨rfl, h1⟩
    have K3 := Kp.mk (K2.out.trans (h1.mono K2.out.size))
    clear h1 K2
    go_wp2_with fail
    go_ret
    exact ⟨rfl, K3.out⟩
  | true =>
    have hk : krB k = false := by rcases hb with hb | hb; · rw [hr] at hb; cases hb
                                  · exact hb
    have HN := fun w1 => new_yes 0 h l w1 (by decide) hr
    rw [hk] at HR
    clear hb hr hk
    obtain ⟨e, s, m⟩ := k
    obtain ⟨e', s', m'⟩ := a
    go_enter Try.func6, Try.ntmps6
    go_wp2_with fail
    refine (HN _).mono ?_
    rintro r w1 ⟨t, rfl, h1, h2, h3⟩
    have K : Kp (Below w.heap.size w w1 ∧ Blk w1 (w.heap.size + 1) (.cells #[.int .u32 e, .int .u32 s, .int .i64 m] 40)) := ⟨U.out.2.2.2.trans (h3.mono U.out.2.2.2.size), U.out.2.1.keep h3⟩
    clear h1 h2 h3 HN U
    go_wp2_with fail
    refine (awake_any _).mono ?_
    rintro r w2 ⟨rfl, h1⟩
    have K2 : Kp (Below w.heap.size w w2 ∧ Blk w2 (w.heap.size + 1) (.cells #[.int .u32 e, .int .u32 s, .int .i64 m] 40)) := ⟨K.out.1.trans (h1.mono K.out.1.size), K.out.2.keep h1⟩
    clear h1 K
    obtain ⟨k0, k1, k2, -⟩ := K2.out.2.three
    go_wp2_with fail
    refine (HR _).mono ?_
    rintro r w3 ⟨rfl, h1⟩
    have K3 := Kp.mk (K2.out.1.trans (h1.mono K2.out.1.size))
    clear h1 K2 k0 k1 k2 HR
    go_wp2_with fail
    refine (awake_any _).mono ?_
    rintro r w4 ⟨rfl, h1⟩
    have K4 := Kp.mk (K3.out.trans (h1.mono K3.out.size))
    clear h1 K3
    go_wp2_with fail
    go_ret
    exact ⟨rfl, K4.out⟩
end Go.Proofs.Ytfpmmbbbndobiaa
