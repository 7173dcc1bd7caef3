/-
  FibWalks: the walk.
-/
import Derived.Test.YtkeoebldadpoiaaFbJ
import Derived.Test.YtkeoebldadpoiaaFbI
import Derived.Test.YtkeoebldadpoiaaFbO
import Derived.Deep.DeepCutAuto
namespace Go.Proofs.Ytkeoebldadpoiaa
open Go.RowKit

theorem takeG {α : Type} [Inhabited α] {l : List α} {k i : Nat} (h : i < k) : (l.take k).getD i default = l.getD i default := by
  simp only [List.getD_eq_getElem?_getD]
  rw [List.getElem?_take, if_pos h]
theorem HoldsF.take {α : Type} {f : α → List Value} {k : Nat} {w : World} {M : Nat} {a : Option Addr} {n cap : Nat} {l : List α} (h : HoldsF f k w M (.slice a n cap) l) {m : Nat} (hm : m ≤ l.length) : HoldsF f k w M (.slice a m cap) (l.take m) ∧ m ≤ cap := by
  obtain ⟨a', cap', h1, h2, h3, h4⟩ := h
  cases h1
  have hl : (l.take m).length = m := by simp [hm]
  refine ⟨⟨a, cap, by rw [hl], by rw [hl]; omega, h3, fun i hi => ?_⟩, by omega⟩
  obtain ⟨b, off, e, hB, hs, hr⟩ := h4 i (by rw [hl] at hi; omega)
  exact ⟨b, off, e, hB, hs, by simpa using hr⟩
theorem TabsIs.take {w : World} {M : Nat} {a : Option Addr} {n cap : Nat} {T : List (List H3)} (h : TabsIs w M (.slice a n cap) T) {m : Nat} (hm : m ≤ T.length) : TabsIs w M (.slice a m cap) (T.take m) ∧ m ≤ cap := by
  obtain ⟨vs, h1, h2, h3⟩ := h
  obtain ⟨h4, h5⟩ := h2.take (m := m) (by rw [h1]; exact hm)
  refine ⟨⟨vs.take m, by simp [h1], h4, fun i hi => ?_⟩, h5⟩
  have hi' : i < m := by simp at hi; omega
  rw [takeG hi', takeG hi']
  exact h3 i (by simp at hi; omega)
/-- At most eight tables. -/
def Few (w : World) (M : Nat) (v : Value) : Prop := ∃ T, T.length ≤ 8 ∧ TabsIs w M v T
def remL (T : List (List H3)) (dest : Int) : Nat → Nat → List (List Int)
  | 0, _ => []
  | k + 1, i => if (walkG T dest 9 [] i).2 = true then (walkG T dest 9 [] i).1 :: remL T dest k (i + 1) else remL T dest k (i + 1)
theorem remL_yes {T : List (List H3)} {dest : Int} {k i : Nat} (h : (walkG T dest 9 [] i).2 = true) : remL T dest (k + 1) i = (walkG T dest 9 [] i).1 :: remL T dest k (i + 1) := by rw [remL, if_pos h]
theorem remL_no {T : List (List H3)} {dest : Int} {k i : Nat} (h : (walkG T dest 9 [] i).2 = false) : remL T dest (k + 1) i = remL T dest k (i + 1) := by rw [remL, if_neg (by rw [h]; simp)]
theorem loops_rem (T : List (List H3)) (dest : Int) : ∀ k i, loopsL T dest (i + k) = loopsL T dest i ++ remL T dest k i
  | 0, i => by simp [remL]
  | k + 1, i => by
    rw [show i + (k + 1) = (i + 1) + k by omega, loops_rem T dest k (i + 1)]
    cases h : (walkG T dest 9 [] i).2 with
    | true => rw [loopsL_yes h, remL_yes h]; simp
    | false => rw [loopsL_no h, remL_no h]
theorem loops_all (T : List (List H3)) (dest : Int) (n : Nat) : loopsL T dest n = remL T dest n 0 := by have := loops_rem T dest n 0; simpa [loopsL] using this
/-- Rows of ints, by a slice of slices. -/
def WaysAt (w : World) (M : Nat) (v : Value) (ls : List (List Int)) : Prop := ∃ vs : List Value, vs.length = ls.length ∧ HoldsF vc 1 w M v vs ∧ ∀ i, i < ls.length → HoldsF ic 1 w M (vs.getD i default) (ls.getD i default)
theorem RowsOf.ways {eo ei : Nat} {w : World} {A : Nat} {v : Value} {ls : List (List Int)} (h : RowsOf ic 1 eo ei w A v ls) : WaysAt w w.heap.size v ls := by
  obtain ⟨vs, h1, h2, h3⟩ := h
  refine ⟨vs, h1, HoldsF.ofRow (f := vc) (fun _ => rfl) (by rw [h1, vc_flat]; exact h2), fun i hi => HoldsF.ofRow (f := ic) (fun _ => rfl) (h3 i hi)⟩
theorem WaysAt.below {w w' : World} {M : Nat} {v : Value} {ls : List (List Int)} (h : WaysAt w M v ls) (hb : Below w.heap.size w w') : WaysAt w' M v ls := by
  obtain ⟨vs, h1, h2, h3⟩ := h
  exact ⟨vs, h1, h2.below hb, fun i hi => (h3 i hi).below hb⟩
theorem WaysAt.shape {w : World} {M : Nat} {v : Value} {ls : List (List Int)} (h : WaysAt w M v ls) : ∃ a cap, v = .slice a ls.length cap ∧ ls.length ≤ cap ∧ cap ≤ maxLen := by
  obtain ⟨vs, h1, h2, h3⟩ := h
  obtain ⟨a, cap, e, h4, h5, _⟩ := h2
  rw [h1] at e h4
  exact ⟨a, cap, e, h4, h5⟩
theorem WaysAt.head {w : World} {M : Nat} {a : Option Addr} {n cap : Nat} {x : List Int} {ls : List (List Int)} (h : WaysAt w M (.slice a n cap) (x :: ls)) :
    ∃ b off ai ni ci, a = some ⟨b, off, none⟩ ∧ b < w.heap.size ∧ w.cell? ⟨b, off, none⟩ = some (.slice ai ni ci) ∧ HoldsF ic 1 w M (.slice ai ni ci) x := by
  obtain ⟨vs, h1, h2, h3⟩ := h
  obtain ⟨b, off, e, hs, hM, hc⟩ := h2.val (i := 0) (by rw [h1]; simp)
  have h4 : HoldsF ic 1 w M (vs.getD 0 default) x := h3 0 (by simp)
  obtain ⟨a', c', e'⟩ := h4.shape
  rw [e'] at hc h4
  exact ⟨b, off, a', _, c', e, hs, hc, h4⟩
theorem WaysAt.tail {w : World} {M b off n cap : Nat} {x : List Int} {ls : List (List Int)} (h : WaysAt w M (.slice (some ⟨b, off, none⟩) n cap) (x :: ls)) :
    WaysAt w M (.slice (if cap = 1 then some ⟨b, off, none⟩ else some ⟨b, off + 1, none⟩) ls.length (cap - 1)) ls := by
  obtain ⟨vs, h1, h2, h3⟩ := h
  match vs, h1 with
  | y :: t, h1 =>
    have hl : t.length = ls.length := by simpa using h1
    obtain ⟨a', cap', e, h4, h5, h6⟩ := h2
    cases e
    refine ⟨t, hl, ⟨_, cap - 1, by rw [hl], by simp at h4; omega, by omega, fun i hi => ?_⟩, fun i hi => h3 (i + 1) (by simpa using hi)⟩
    obtain ⟨b', off', e, hB, hs, hr⟩ := h6 (i + 1) (by simpa using hi)
    cases e
    refine ⟨b, off + 1, by rw [if_neg (by simp at h4; omega)], hB, hs, ?_⟩
    rw [show off + 1 + i * 1 = off + (i + 1) * 1 by omega]
    exact hr
set_option maxRecDepth 100000 in
set_option maxHeartbeats 12800000 in
theorem fibWalks_walk (a0 : Option Addr) (len0 cap0 : Nat) (z0 : List (List H3)) (x1 x2 : Int) (w : World)
    (f0 : TabsIs w w.heap.size (.slice a0 len0 cap0) z0) (_w1 : (Lit.int .i64 x1).wf = true) (_w2 : (Lit.int .i64 x2).wf = true) :
    Calls Try.prog 4 #[.slice a0 len0 cap0, .int .i64 x1, .int .i64 x2] w fun r w' => r = .returned (.bool true) ∧ Below w.heap.size w w' := by
  obtain rfl : len0 = z0.length := by obtain ⟨⟨_, _, h⟩, _⟩ := f0.shape; cases h; rfl
  have hlm : z0.length ≤ 9223372036854775807 := by have := f0.shape.2; unfold maxLen at this; omega
  have K0 := Kp.mk f0
  clear f0 _w1 _w2
  obtain ⟨M, hM⟩ : ∃ M, M = w.heap.size := ⟨_, rfl⟩
  rw [← hM] at K0
  have HM := Kp.mk hM
  clear hM
  obtain ⟨i0, hi0, hz0, hz1, hz2⟩ := info_parts info26'
  go_enter Try.func4, Try.ntmps4
  go_upto_if 20 with (fail)
  go_cut [0] (fun v wx => Kp (Few w M v) ∧ wx = w)
  case first =>
    by_cases h8 : 8 < z0.length
    · have hT := K0.out.take (m := 8) (by omega)
      have h8c : 8 ≤ cap0 := hT.2
      have HTT := Kp.mk hT.1
      have HT8 : Kp ((z0.take 8).length ≤ 8) := ⟨by simp; omega⟩
      clear hT
      go_wp2_with fail
      go_meet
      case rel => exact ⟨⟨_, HT8.out, HTT.out⟩, rfl⟩
    · go_wp2_with fail
      go_meet
      case rel => exact ⟨⟨z0, by omega, K0.out⟩, rfl⟩
  case rest =>
    obtain ⟨HF, rfl⟩ := hcut
    clear K0
    obtain ⟨T, hT, hV⟩ := HF.out
    obtain ⟨⟨pt, cp, rfl⟩, _⟩ := hV.shape
    have HV := Kp.mk hV
    have HT := Kp.mk hT
    obtain ⟨n, hn⟩ : ∃ n, n = T.length := ⟨_, rfl⟩
    rw [← hn] at HV hT HF ⊢
    have HN := Kp.mk hn
    clear hn hV HF
    have HAe : Kp (M = wc.heap.size) := HM
    go_wp2_with fail
    go_loopw [7, 9, 25] (fun v _ c wr => ∃ i : Nat, i ≤ n ∧ c = .int .i64 i ∧ Kp (∀ j, j < i → tblB (T.getD j default) = true) ∧ Kp (RowsOf hc 3 26 54 wr M v (T.take i)) ∧ Kp (Below M wc wr) ∧ Kp (M ≤ wr.heap.size)) (fun _ _ c _ => n - (intOf c).toNat)
    case atStart => exact ⟨0, by omega, rfl, ⟨fun j hj => by omega⟩, ⟨RowsOf.nil _ _ _ _ _ _⟩, ⟨by rw [HAe.out]; exact Below.refl _ _⟩, ⟨by rw [HAe.out]; exact Nat.le_refl _⟩⟩
    case round =>
      obtain ⟨i, hi, rfl, HP, HO, E0, Z0⟩ := hrel
      by_cases hlt : i < n
      · have t1 : (i : Int) < n := by omega
        have HLT := Kp.mk hlt
        have V0 : Kp (TabsIs wr M (.slice pt n cp) T) := ⟨HV.out.below (by rw [← HAe.out]; exact E0.out)⟩
        obtain ⟨tb, tof, ta, tn, tc, rfl, htb, hc0, hH⟩ := V0.out.at (i := i) (by rw [← HN.out]; exact hlt)
        have HH := Kp.mk hH
        have HTK := Kp.mk (take_snocG T (i := i) (by rw [← HN.out]; exact hlt))
        have HPG : Kp (tblB (T.getD i default) = true → ∀ j, j < i + 1 → tblB (T.getD j default) = true) := ⟨fun h j hj => by
          by_cases hji : j < i
          · exact HP.out j hji
          · obtain rfl : j = i := by omega
            exact h⟩
        clear hlt hH htb
        generalize T.getD i default = t at HH HTK HPG
        go_wp2_with fail
        refine (table_any t _ _ _ HH.out).mono ?_
        rintro r w1 ⟨rfl, k1, rfl⟩
        replace HH := Kp.mk (HH.out.below (below_drewN _ k1))
        have E1 : Kp (Below M wc (wr.drewN k1)) := ⟨E0.out.trans ((below_drewN _ k1).mono Z0.out)⟩
        have Z1 : Kp (M ≤ (wr.drewN k1).heap.size) := ⟨Z0.out⟩
        have HO1 := Kp.mk (HO.out.below (below_drewN _ k1))
        clear E0 Z0 HO V0 hc0
        generalize wr.drewN k1 = w1 at HH E1 Z1 HO1 ⊢
        cases htt : tblB t with
        | false =>
          clear htt HPG
          go_wp2_with fail
          refine (awake_any _).mono ?_
          rintro r w2 ⟨rfl, hb⟩
          have E2 : Kp (Below M wc w2) := ⟨E1.out.trans (hb.mono Z1.out)⟩
          clear hb
          go_wp2_with fail
          go_ret
          exact ⟨rfl, by rw [← HAe.out]; exact E2.out⟩
        | true =>
          have HP2 := Kp.mk (HPG.out htt)
          have HT8 := Kp.mk (tblB_len htt)
          clear htt HPG
          go_wp2_with fail
          refine (to_any t _ _ _ HH.out (by have := HT8.out; omega)).mono ?_
          rintro r w2 ⟨y, rfl, hy, hb⟩
          have E2 : Kp (Below M wc w2) := ⟨E1.out.trans (hb.mono Z1.out)⟩
          have Z2 : Kp (M ≤ w2.heap.size) := ⟨Nat.le_trans Z1.out hb.size⟩
          have HO2 := Kp.mk (HO1.out.below hb)
          have HW := Kp.mk (ownsRow_base hy Z1.out)
          clear hb hy E1 Z1 HO1
          obtain ⟨ya, yc, rfl⟩ := (ofRowH HW.out).shape
          obtain ⟨yn, hyn⟩ : ∃ yn, yn = t.length := ⟨_, rfl⟩
          have HYN := Kp.mk hyn
          rw [← hyn] at HW ⊢
          clear hyn
          obtain ⟨vs, hvl, hov, hin⟩ := HO2.out
          have hTi : (T.take i).length = i := by rw [List.length_take]; have := HLT.out; have := HN.out; omega
          rw [hTi] at hov hin hvl
          have HVS := Kp.mk (And.intro hvl (And.intro hov hin))
          have HTI := Kp.mk hTi
          clear hvl hov hin hTi
          go_wp2_with (at_builtin; refine wpList_append_own _ rfl _ _ 38 rfl M 26 i0 (.slice none 0 0) 1 24 Try.underlying38 hi0 hz0 hz1 hz2 rfl (by decide) _ i vs rfl (HVS.out.2.1.alloc _) ⟨w2.heap.size, 0, none⟩ 1 1 [.slice ya yn yc] rfl rfl ?c1 ?c2 ?c3 ?c4 ?c5 ?_)
          case c1 =>
            intro j u hj
            match j, hj with
            | 0, hj => simp at hj; subst hj; simp [Addr.add]
          case c2 =>
            intro u hu
            simp at hu
            subst hu
            rfl
          case c3 => have := HLT.out; unfold maxLen; omega
          case c4 => have := HLT.out; omega
          case c5 => have := Z2.out; simp; omega
          · intro v' w3 hown' hgrow _
            have E3 : Kp (Below M wc w3) := ⟨below_row_grown (E2.out.alloc Z2.out _) (by have := Z2.out; simp; omega) (HVS.out.2.1.alloc _) hgrow⟩
            have Z3 : Kp (M ≤ w3.heap.size) := ⟨by have h8 := hgrow.size; have := Z2.out; simp at h8; omega⟩
            have HO3 : Kp (RowsOf hc 3 26 54 w3 M v' (T.take (i + 1))) := ⟨by
              rw [HTK.out]
              refine RowsOf.push (w := w2.alloc (.cells #[.slice ya yn yc] 26)) (vs := vs) (x := .slice ya yn yc) (by rw [HVS.out.1, HTI.out]) (by rw [HTI.out]; exact HVS.out.2.1.alloc _) (fun i hi => (HVS.out.2.2 i (by rw [← HTI.out]; exact hi)).alloc _) (by rw [← HYN.out]; exact HW.out.alloc _) (by decide) (by rw [HTI.out]; exact hown') hgrow⟩
            clear hown' hgrow
            go_wp2_with fail
            exact ⟨⟨i + 1, by have := HLT.out; omega, by go_num, HP2, HO3, E3, Z3⟩, by have := HLT.out; simp [intOf]; omega⟩
      · obtain rfl : i = n := by omega
        have HIN : Kp (TabsIs wr wr.heap.size u7 T) := ⟨by have h := HO.out.tabs; rw [List.take_of_length_le (by rw [← HN.out]; exact Nat.le_refl _)] at h; exact h⟩
        have HOK : Kp (OkT T) := ⟨fun l hl h hh => by
          obtain ⟨j, hj, rfl⟩ := List.getElem_of_mem hl
          have := HP.out j (by rw [HN.out]; exact hj)
          rw [← gd hj] at this
          exact tblB_ok this h hh⟩
        clear HP HO
        go_wp2_with fail
        refine (walk_any T x1 x2 _ _ _ HIN.out HT.out).mono ?_
        obtain ⟨R, hR⟩ : ∃ R, R = walkG T x2 9 [] x1 := ⟨_, rfl⟩
        have HR := Kp.mk hR
        rw [← hR]
        clear hR
        rintro r w1 ⟨y1, rfl, hy, hb⟩
        have E1 : Kp (Below M wc w1) := ⟨E0.out.trans (hb.mono Z0.out)⟩
        have Z1 : Kp (M ≤ w1.heap.size) := ⟨Nat.le_trans Z0.out hb.size⟩
        have HY1 := Kp.mk (ofRowI hy)
        replace HIN := Kp.mk (HIN.out.below hb)
        clear hb hy E0 Z0
        go_wp2_with fail
        refine (rwalk_any T x1 x2 _ _ _ (HV.out.below (by rw [← HAe.out]; exact E1.out)) HT.out HOK.out).mono ?_
        rw [← HR.out]
        rintro r w2 ⟨y2, rfl, hy, hb⟩
        have E2 : Kp (Below M wc w2) := ⟨E1.out.trans (hb.mono Z1.out)⟩
        have Z2 : Kp (M ≤ w2.heap.size) := ⟨Nat.le_trans Z1.out hb.size⟩
        have HY2 := Kp.mk (ofRowI hy)
        replace HY1 := Kp.mk (HY1.out.below hb)
        replace HIN := Kp.mk (HIN.out.below hb)
        clear hb hy E1 Z1 HR
        obtain ⟨way, lp⟩ := R
        have hlp : (lp != lp) = false := by simp
        go_wp2_with fail
        refine (sameInts_any way _ _ y1 y2 _ HY1.out HY2.out).mono ?_
        rintro r w3 ⟨rfl, k3, rfl⟩
        have E3 : Kp (Below M wc (w2.drewN k3)) := ⟨E2.out.trans ((below_drewN _ k3).mono Z2.out)⟩
        have Z3 : Kp (M ≤ (w2.drewN k3).heap.size) := ⟨Z2.out⟩
        replace HIN := Kp.mk (HIN.out.below (below_drewN _ k3))
        clear E2 Z2 HY1 HY2
        generalize w2.drewN k3 = w3 at E3 Z3 HIN ⊢
        go_wp2_with fail
        refine (loops_any T x2 _ _ _ HIN.out HT.out).mono ?_
        rw [loops_all, ← HN.out]
        rintro r w4 ⟨y4, rfl, hy, hb⟩
        have E4 : Kp (Below M wc w4) := ⟨E3.out.trans (hb.mono Z3.out)⟩
        have Z4 : Kp (M ≤ w4.heap.size) := ⟨Nat.le_trans Z3.out hb.size⟩
        have HY4 := Kp.mk hy.ways
        clear hb hy E3 Z3 HIN
        go_wp2_with fail
        go_loopw [14, 15, 16, 17, 67] (fun v _ _ _ c wr => ∃ i2 : Nat, i2 ≤ i ∧ c = .int .i64 i2 ∧ Kp (WaysAt wr w4.heap.size v (remL T x2 (i - i2) i2)) ∧ Kp (Below M wc wr) ∧ Kp (M ≤ wr.heap.size)) (fun _ _ _ _ c _ => i - (intOf c).toNat)
        case atStart => exact ⟨0, by omega, rfl, HY4, E4, Z4⟩
        case round =>
          obtain ⟨j, hj, rfl, HW, E0, Z0⟩ := hrel
          by_cases hlt : j < i
          · have t1 : (j : Int) < i := by omega
            have HLT := Kp.mk hlt
            clear hlt
            obtain ⟨q, hq⟩ : ∃ q, i - j = q + 1 := ⟨i - j - 1, by have := HLT.out; omega⟩
            have HQ : Kp (i - (j + 1) = q) := ⟨by omega⟩
            rw [hq] at HW
            clear hq
            go_wp2_with fail
            refine (rwalk_any T j x2 _ _ _ (HV.out.below (by rw [← HAe.out]; exact E0.out)) HT.out HOK.out).mono ?_
            have HRY := Kp.mk (remL_yes (T := T) (dest := x2) (k := q) (i := j))
            have HRN := Kp.mk (remL_no (T := T) (dest := x2) (k := q) (i := j))
            generalize walkG T x2 9 [] j = R at HRY HRN ⊢
            rintro r w5 ⟨y5, rfl, hy, hb⟩
            have E5 : Kp (Below M wc w5) := ⟨E0.out.trans (hb.mono Z0.out)⟩
            have Z5 : Kp (M ≤ w5.heap.size) := ⟨Nat.le_trans Z0.out hb.size⟩
            have HY5 := Kp.mk (ofRowI hy)
            replace HW := Kp.mk (HW.out.below hb)
            clear hb hy E0 Z0
            obtain ⟨way5, lp5⟩ := R
            cases lp5 with
            | false =>
              have HW2 : Kp (WaysAt w5 w4.heap.size u14 (remL T x2 (i - (j + 1)) (j + 1))) := ⟨by rw [HQ.out, ← HRN.out (by simp)]; exact HW.out⟩
              clear HW HRY HRN
              go_wp2_with fail
              exact ⟨⟨j + 1, by have := HLT.out; omega, by go_num, HW2, E5, Z5⟩, by have := HLT.out; simp [intOf]; omega⟩
            | true =>
              rw [HRY.out (by simp)] at HW
              clear HRY HRN
              generalize hls : remL T x2 q (j + 1) = ls at *
              have HLS := Kp.mk hls
              clear hls
              obtain ⟨pa, pc, rfl, hpc, hpm⟩ := HW.out.shape
              obtain ⟨pb, po, ai, ni, ci, rfl, hps, hpcell, hph⟩ := HW.out.head
              have HPH := Kp.mk hph
              have HTL := Kp.mk HW.out.tail
              clear hph hps hpm HW
              obtain ⟨m, hm⟩ : ∃ m, m = ls.length := ⟨_, rfl⟩
              simp only [List.length_cons] at hpc ⊢
              rw [← hm] at hpc HTL ⊢
              clear hm
              have hmm : ((m : Int) + 1 == 0) = false := by simp; omega
              have hm0 : (0 : Int) < (m : Int) + 1 := by omega
              go_wp2_with fail
              refine (sameInts_any way5 _ _ _ y5 _ HPH.out HY5.out).mono ?_
              rintro r w6 ⟨rfl, k6, rfl⟩
              have E6 : Kp (Below M wc (w5.drewN k6)) := ⟨E5.out.trans ((below_drewN _ k6).mono Z5.out)⟩
              have Z6 : Kp (M ≤ (w5.drewN k6).heap.size) := ⟨Z5.out⟩
              replace HTL := Kp.mk (HTL.out.below (below_drewN _ k6))
              clear E5 Z5 HPH HY5 hpcell
              generalize w5.drewN k6 = w6 at E6 Z6 HTL ⊢
              have t2 : (1 : Int) ≤ (m : Int) + 1 := by omega
              have t3 : m + 1 ≤ pc := by omega
              go_wp2_with fail
              exact ⟨⟨j + 1, by have := HLT.out; omega, by go_num, ⟨by rw [HQ.out, HLS.out]; exact HTL.out⟩, E6, Z6⟩, by have := HLT.out; simp [intOf]; omega⟩
          · obtain rfl : j = i := by omega
            simp only [Nat.sub_self, remL] at HW
            obtain ⟨pa, pc, rfl, hpc, hpm⟩ := HW.out.shape
            clear hpc hpm HW
            go_wp2_with fail
            refine (awake_any _).mono ?_
            rintro r w9 ⟨rfl, hb⟩
            have E5 : Kp (Below M wc w9) := ⟨E0.out.trans (hb.mono Z0.out)⟩
            clear hb
            go_wp2_with fail
            go_ret
            exact ⟨rfl, by rw [← HAe.out]; exact E5.out⟩
end Go.Proofs.Ytkeoebldadpoiaa
