/-
  Rows of short sums (RefD, RefE).
-/
import Derived.Test.YtgabjmmmiogfjaaDoorFuC
namespace Go.Proofs.YtgabjmmmiogfjaaDoor
open Go.RowKit

def RSumsPostU (M R : Nat) (B : List Int) (at' : Nat) (e most : Int) (w : World) (r : Ending) (w' : World) : Prop :=
  ∃ v n, r = .returned v ∧ (rsumsP B at' e most).length = n * 16 ∧ n ≤ 255 ∧ w'.ownsRow w.heap.size 40 16 v n (bv (rsumsP B at' e most)) ∧ RefStep M R B (rsumsA B at' e most) (rsumsE B at' e most) w w'
theorem RSumsPostU.no {M R : Nat} {B : List Int} {at' : Nat} {e most : Int} {w w' : World} {a : Nat} {e' : Int} (h1 : rsumsA B at' e most = a) (h2 : rsumsE B at' e most = e') (h3 : e' ≠ 0) (h : RefStep M R B a e' w w') :
    RSumsPostU M R B at' e most w (.returned (.slice none 0 0)) w' := by
  refine ⟨_, 0, rfl, ?_, by omega, ?_, by rw [h1, h2]; exact h⟩
  · unfold rsumsP; rw [h2, if_neg h3]; rfl
  · unfold rsumsP; rw [h2, if_neg h3]; exact World.ownsRow_nil _ _ _ _
set_option maxHeartbeats 1600000 in
theorem rsums_err (M R : Nat) (B : List Int) (at' : Nat) (e most : Int) (w : World) (h : RefIs w M R B at' e) (hm0 : -9223372036854775808 ≤ most) (hm1 : most ≤ 9223372036854775807) (he1 : rawE B at' e 1 ≠ 0) :
    Calls Tryd.prog 65 #[.pointer (some ⟨R, 0, none⟩), .int .i64 most] w (RSumsPostU M R B at' e most w) := by
  have HPO : Hid (∀ w', RefStep M R B (rawA B at' e 1) (rawE B at' e 1) w w' → RSumsPostU M R B at' e most w (.returned (.slice none 0 0)) w') :=
    fun w' h' => RSumsPostU.no (by unfold rsumsA; rw [if_pos he1]) (by unfold rsumsE; rw [if_pos he1]) he1 h'
  have HP : Hid (rawP B at' e 1 = []) := by
    unfold Hid rawP
    unfold rawE at he1
    split at he1 <;> rw [if_neg (by omega)]
  go_enter Tryd.func65, Tryd.ntmps65
  go_wp2_with fail
  refine (num_any M R B at' e 1 _ h (by omega)).mono ?_
  rintro r w1 ⟨rfl, h1⟩
  rw [HP.out, numOf_nil]
  have H1 := Lib.hid h1
  obtain ⟨⟨_, ⟨v, hv, hB⟩, _⟩, _⟩ := h1
  obtain ⟨c0, c1, c2, -⟩ := hB.three
  have t0 : (rawE B at' e 1 == 0) = false := by simp [he1]
  have t1 : (rawE B at' e 1 != 0) = true := by simp [he1]
  generalize rawE B at' e 1 = E1 at *
  clear hB hv h he1
  go_wp2_with fail
  go_loopw [7] (fun c wr => c = .int .i64 0 ∧ wr = w1) (fun _ _ => 0)
  case atStart => exact ⟨rfl, rfl⟩
  case round =>
    obtain ⟨rfl, rfl⟩ := hrel
    go_wp2_with fail
    go_ret
    exact HPO.out _ H1.out
set_option maxHeartbeats 1600000 in
theorem rsums_lim (M R : Nat) (B : List Int) (at' : Nat) (e most : Int) (w : World) (h : RefIs w M R B at' e) (hm0 : -9223372036854775808 ≤ most) (hm1 : most ≤ 9223372036854775807) (he1 : rawE B at' e 1 = 0) (ho : overF most (cnt1 B at' e) = true) :
    Calls Tryd.prog 65 #[.pointer (some ⟨R, 0, none⟩), .int .i64 most] w (RSumsPostU M R B at' e most w) := by
  have HPO : Hid (∀ w', RefStep M R B (rawA B at' e 1) 8 w w' → RSumsPostU M R B at' e most w (.returned (.slice none 0 0)) w') :=
    fun w' h' => RSumsPostU.no (by unfold rsumsA; rw [if_neg (by omega), if_pos ho]) (by unfold rsumsE; rw [if_neg (by omega), if_pos ho]) (by decide) h'
  obtain ⟨hc1, hc2⟩ := cnt1_is h.bytes at' e
  have ho' : (if most < 0 then 0 else most) < ((cnt1 B at' e : Nat) : Int) := of_decide_eq_true ho
  have HC1 := Lib.hid hc1
  have HE1 := Lib.hid he1
  generalize cnt1 B at' e = n at ho' hc2 HC1
  clear ho hc1 he1
  by_cases hmn : most < 0
  all_goals
    first | (rw [if_pos hmn] at ho') | (rw [if_neg hmn] at ho')
    go_enter Tryd.func65, Tryd.ntmps65
    go_wp2_with fail
    refine (num_any M R B at' e 1 _ h (by omega)).mono ?_
    rintro r w1 ⟨rfl, h1⟩
    rw [HC1.out]
    have H1 := Lib.hid h1
    rw [HE1.out] at h1
    obtain ⟨⟨_, ⟨v, hv, hB⟩, _⟩, _⟩ := h1
    obtain ⟨c0, c1, c2, f0, f1, f2⟩ := hB.three
    have lR := hB.lt
    have H3 : Hid (RefStep M R B (rawA B at' e 1) 8 w (w1.setCell ⟨R, 2, none⟩ (.int .i64 8))) := by
      have := H1.out
      rw [HE1.out] at this
      exact this.trans (this.is.fail 8)
    clear hB hv
    go_wp2_with fail
    generalize w1.setCell ⟨R, 2, none⟩ (.int .i64 8) = w3 at H3 ⊢
    have h3 := H3.out
    obtain ⟨⟨_, ⟨v3, hv3, hB3⟩, _⟩, _⟩ := h3
    obtain ⟨d0, d1, d2, -⟩ := hB3.three
    clear hB3 hv3 c0 c1 c2 f0 f1 f2 lR
    go_loopw [7] (fun c wr => c = .int .i64 0 ∧ wr = w3) (fun _ _ => 0)
    case atStart => exact ⟨rfl, rfl⟩
    case round =>
      obtain ⟨rfl, rfl⟩ := hrel
      go_wp2_with fail
      go_ret
      exact HPO.out _ H3.out
set_option maxRecDepth 100000 in
set_option maxHeartbeats 3200000 in
theorem rsums_ok (M R : Nat) (B : List Int) (at' : Nat) (e most : Int) (w : World) (h : RefIs w M R B at' e) (hm0 : -9223372036854775808 ≤ most) (hm1 : most ≤ 9223372036854775807) (he1 : rawE B at' e 1 = 0) (ho : overF most (cnt1 B at' e) = false) :
    Calls Tryd.prog 65 #[.pointer (some ⟨R, 0, none⟩), .int .i64 most] w (RSumsPostU M R B at' e most w) := by
  have hlen := h.len
  have HLEN := Lib.hid hlen
  have hRw := Lib.hid h.lt
  obtain ⟨hc1, hc2⟩ := cnt1_is h.bytes at' e
  have ho' : ¬ (if most < 0 then 0 else most) < ((cnt1 B at' e : Nat) : Int) := of_decide_eq_false ho
  have HY : Hid (∀ v w', cnt1 B at' e * 16 ≤ B.length - rawA B at' e 1 → w'.ownsRow w.heap.size 40 16 v (cnt1 B at' e) (bv ((B.drop (rawA B at' e 1)).take (cnt1 B at' e * 16))) → RefStep M R B (rawA B at' e 1 + cnt1 B at' e * 16) 0 w w' → RSumsPostU M R B at' e most w (.returned v) w') := by
    intro v w' hf hrow hst
    have hE : rsumsE B at' e most = 0 := by unfold rsumsE; rw [if_neg (by omega), if_neg (by simp [ho]), if_pos hf]
    have hA : rsumsA B at' e most = rawA B at' e 1 + cnt1 B at' e * 16 := by unfold rsumsA; rw [if_neg (by omega), if_neg (by simp [ho]), if_pos hf]
    have hP : rsumsP B at' e most = (B.drop (rawA B at' e 1)).take (cnt1 B at' e * 16) := by unfold rsumsP; rw [if_pos hE]
    refine ⟨v, cnt1 B at' e, rfl, ?_, hc2, by rw [hP]; exact hrow, by rw [hA, hE]; exact hst⟩
    rw [hP, List.length_take, List.length_drop]
    omega
  have HNO : Hid (∀ w', B.length - rawA B at' e 1 < cnt1 B at' e * 16 → RefStep M R B (rawA B at' e 1 + (B.length - rawA B at' e 1) / 16 * 16) 9 w w' → RSumsPostU M R B at' e most w (.returned (.slice none 0 0)) w') := by
    intro w' hf hst
    have hE : rsumsE B at' e most = 9 := by unfold rsumsE; rw [if_neg (by omega), if_neg (by simp [ho]), if_neg (by omega)]
    have hA : rsumsA B at' e most = rawA B at' e 1 + (B.length - rawA B at' e 1) / 16 * 16 := by unfold rsumsA; rw [if_neg (by omega), if_neg (by simp [ho]), if_neg (by omega)]
    exact RSumsPostU.no hA hE (by decide) hst
  have HC1 := Lib.hid hc1
  have HE1 := Lib.hid he1
  generalize cnt1 B at' e = n at ho' hc2 HC1 HY HNO
  clear ho hc1 he1 hlen
  by_cases hmn : most < 0
  · rw [if_pos hmn] at ho'
    obtain rfl : n = 0 := by omega
    clear ho'
    go_enter Tryd.func65, Tryd.ntmps65
    go_wp2_with fail
    refine (num_any M R B at' e 1 _ h (by omega)).mono ?_
    rintro r w1 ⟨rfl, h1⟩
    rw [HC1.out]
    rw [HE1.out] at h1
    have H1 := Lib.hid h1
    generalize rawA B at' e 1 = a1 at H1 HY HNO h1
    obtain ⟨⟨_, ⟨v, hv, hB⟩, _⟩, _⟩ := h1
    obtain ⟨c0, c1, c2, f0, f1, f2⟩ := hB.three
    have lR := hB.lt
    clear hB hv
    go_wp2_with fail
    go_loopw [6, 7] (fun v c wr => v = .slice none 0 0 ∧ c = .int .i64 0 ∧ wr = w1) (fun _ _ _ => 0)
    case atStart => exact ⟨rfl, rfl, rfl⟩
    case round =>
      obtain ⟨rfl, rfl, rfl⟩ := hrel
      go_wp2_with fail
      go_ret
      exact HY.out _ _ (by omega) (World.ownsRow_nil _ _ _ _) H1.out
  · rw [if_neg hmn] at ho'
    have ho2 := ho'
    simp only [Int.not_lt] at ho2
    clear ho'
    obtain ⟨i0, hi, hz0, hz1, hz2⟩ := info_parts info42'
    go_enter Tryd.func65, Tryd.ntmps65
    go_wp2_with fail
    refine (num_any M R B at' e 1 _ h (by omega)).mono ?_
    rintro r w1 ⟨rfl, h1⟩
    rw [HC1.out]
    rw [HE1.out] at h1
    have H1 := Lib.hid h1
    generalize rawA B at' e 1 = a1 at H1 HY HNO h1
    obtain ⟨⟨_, ⟨v, hv, hB⟩, _⟩, _⟩ := h1
    obtain ⟨c0, c1, c2, f0, f1, f2⟩ := hB.three
    have lR := hB.lt
    clear hB hv
    go_wp2_with fail
    clear c0 c1 c2 f0 f1 f2 lR
    have HS1 := Lib.hid H1.out.size
    go_loopw [6, 7] (fun v c wr => ∃ i : Nat, i ≤ n ∧ c = .int .i64 i ∧
        ((i * 16 ≤ B.length - a1 ∧ RefStep M R B (a1 + i * 16) 0 w wr ∧ wr.ownsRow w.heap.size 40 16 v i (bv ((B.drop a1).take (i * 16))) ∧ w.heap.size ≤ wr.heap.size) ∨
         (B.length - a1 < n * 16 ∧ RefStep M R B (a1 + (B.length - a1) / 16 * 16) 9 w wr)))
      (fun _ c _ => n - (intOf c).toNat)
    case atStart => exact ⟨0, by omega, rfl, .inl ⟨by omega, H1.out, World.ownsRow_nil _ _ _ _, HS1.out⟩⟩
    case round =>
      obtain ⟨i, hi', rfl, hcase⟩ := hrel
      rcases hcase with ⟨hfit, hst, hrow, hsz⟩ | ⟨hfail, hst⟩
      · have HST := Lib.hid hst
        have HROW := Lib.hid hrow
        have HFIT := Lib.hid hfit
        have HSZ := Lib.hid hsz
        obtain ⟨⟨_, ⟨v, hv, hB⟩, _⟩, _⟩ := hst
        obtain ⟨c0, c1, c2, -⟩ := hB.three
        have lR := hB.lt
        clear hB hv hrow hfit hsz
        by_cases hlt : i < n
        · go_wp2_with fail
          refine (risum_any M R B (a1 + i * 16) 0 _ HST.out.is).mono ?_
          rintro r w2 ⟨rfl, h2⟩
          have hlp := rsumP_len B (a1 + i * 16) 0
          have hrow2 : w2.ownsRow w.heap.size 40 16 u6 i (bv ((B.drop a1).take (i * 16))) := by
            obtain ⟨_, o, ho⟩ := h2
            exact ownsRow_turn HROW.out ho hRw.out
          have HROW2 := Lib.hid hrow2
          have HST2 := Lib.hid (HST.out.trans h2)
          have HSZ2 := Lib.hid (Nat.le_trans HSZ.out h2.size)
          have HPP : Hid ((i + 1) * 16 ≤ B.length - a1 → bv ((B.drop a1).take (i * 16)) ++ bv (rsumP B (a1 + i * 16) 0) = bv ((B.drop a1).take ((i + 1) * 16))) := by
            intro hm
            unfold rsumP
            rw [if_pos ⟨rfl, by omega⟩, show (i + 1) * 16 = i * 16 + 16 by omega, List.take_add, List.drop_drop]
            exact (List.map_append ..).symm
          obtain ⟨p, hp⟩ : ∃ p, rsumP B (a1 + i * 16) 0 = p := ⟨_, rfl⟩
          rw [hp] at hlp HPP ⊢
          generalize bv ((B.drop a1).take (i * 16)) = xs at HROW2 HPP hrow2
          have hbs := build43 hlp
          have HLP := Lib.hid hlp
          clear hrow2 h2 hp hlp c0 c1 c2 lR
          go_wp2_with (first | (refine wpList_buildSlice_one rfl 101 1 (.tmp 50) rfl (sumV p) rfl _ _ (hbs _) ?_) | (at_builtin; refine wpList_append_own _ rfl _ _ 101 rfl w.heap.size 40 i0 _ 16 16 Tryd.underlying101 hi hz0 hz1 hz2 rfl (by decide) _ _ _ rfl (HROW2.out.alloc _) ⟨w2.heap.size, 0, none⟩ 1 1 (bv p) rfl ?c0 (row_new _ _ _) ?c2 ?c3 ?c4 ?c5 ?_))
          case c0 => rw [bv_len, HLP.out]
          case c2 => exact bv_one _
          case c3 => unfold maxLen; omega
          case c4 => omega
          case c5 => have := HSZ2.out; simp; omega
          · intro v' w4 hown' hgrow _
            have HO4 := Lib.hid hown'
            have HB4 : Hid (Below w.heap.size w2 w4) := below_row_grown ((Below.refl _ w2).alloc HSZ2.out _) (by have := HSZ2.out; simp; omega) (HROW2.out.alloc _) hgrow
            have HST4 := Lib.hid (HST2.out.upto HB4.out (Nat.le_refl _) hRw.out)
            have HSZ4 := Lib.hid (Nat.le_trans HSZ2.out HB4.out.size)
            clear hown' hgrow hbs
            go_wp2_with fail
            refine ⟨⟨i + 1, by omega, by go_num, ?_⟩, by simp [intOf]; omega⟩
            by_cases hmore : (i + 1) * 16 ≤ B.length - a1
            · refine .inl ⟨hmore, ?_, by have := HO4.out; rw [HPP.out hmore] at this; exact this, HSZ4.out⟩
              have := HST4.out
              rw [show rawA B (a1 + i * 16) 0 16 = a1 + (i + 1) * 16 by unfold rawA; rw [if_pos ⟨rfl, by omega⟩]; omega, show rawE B (a1 + i * 16) 0 16 = 0 by unfold rawE; rw [if_neg (by omega)]] at this
              exact this
            · refine .inr ⟨by omega, ?_⟩
              have := HST4.out
              have hf := HFIT.out
              rw [show rawA B (a1 + i * 16) 0 16 = a1 + (B.length - a1) / 16 * 16 by unfold rawA; rw [if_neg (by omega)]; omega, show rawE B (a1 + i * 16) 0 16 = 9 by unfold rawE; rw [if_pos ⟨rfl, by omega⟩]] at this
              exact this
        · obtain rfl : i = n := by omega
          go_wp2_with fail
          go_ret
          exact HY.out _ _ HFIT.out HROW.out HST.out
      · have HST := Lib.hid hst
        obtain ⟨⟨_, ⟨v, hv, hB⟩, _⟩, _⟩ := hst
        obtain ⟨c0, c1, c2, -⟩ := hB.three
        have lR := hB.lt
        have HF := Lib.hid hfail
        clear hB hv hfail
        by_cases hlt : i < n
        · go_wp2_with fail
          go_ret
          exact HNO.out _ HF.out HST.out
        · obtain rfl : i = n := by omega
          go_wp2_with fail
          go_ret
          exact HNO.out _ HF.out HST.out

theorem rsums_any (M R : Nat) (B : List Int) (at' : Nat) (e most : Int) (w : World) (h : RefIs w M R B at' e) (hm0 : -9223372036854775808 ≤ most) (hm1 : most ≤ 9223372036854775807) :
    Calls Tryd.prog 65 #[.pointer (some ⟨R, 0, none⟩), .int .i64 most] w (RSumsPostU M R B at' e most w) := by
  by_cases he : rawE B at' e 1 = 0
  · cases ho : overF most (cnt1 B at' e)
    · exact rsums_ok M R B at' e most w h hm0 hm1 he ho
    · exact rsums_lim M R B at' e most w h hm0 hm1 he ho
  · exact rsums_err M R B at' e most w h hm0 hm1 he
end Go.Proofs.YtgabjmmmiogfjaaDoor
