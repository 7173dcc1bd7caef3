/-
  FibNearer: the walk.
-/
import Derived.Test.YtkeoebldadpoiaaFbL
namespace Go.Proofs.Ytkeoebldadpoiaa
open Go.RowKit Go.Maps

set_option maxRecDepth 100000 in
set_option maxHeartbeats 12800000 in
theorem fibNearer_walk (a0 : Option Addr) (len0 cap0 : Nat) (z0 : List (List H3)) (a1 : Option Addr) (len1 cap1 : Nat) (z1 : List Int) (x2 : Int) (w : World)
    (f0 : TabsIs w w.heap.size (.slice a0 len0 cap0) z0) (f1 : HoldsF ic 1 w w.heap.size (.slice a1 len1 cap1) z1) (_w2 : (Lit.int .i64 x2).wf = true) :
    Calls Try.prog 5 #[.slice a0 len0 cap0, .slice a1 len1 cap1, .int .i64 x2] w fun r w' => r = .returned (.bool true) ∧ Below w.heap.size w w' := by
  obtain rfl : len0 = z0.length := by obtain ⟨⟨_, _, h⟩, _⟩ := f0.shape; cases h; rfl
  have hlm : z0.length ≤ 9223372036854775807 := by have := f0.shape.2; unfold maxLen at this; omega
  obtain rfl : len1 = z1.length := by obtain ⟨_, _, h, _⟩ := f1; cases h; rfl
  have K0 := Kp.mk f0
  have M0 := Kp.mk f1
  clear f0 f1 _w2
  obtain ⟨M, hM⟩ : ∃ M, M = w.heap.size := ⟨_, rfl⟩
  rw [← hM] at K0 M0
  have HM := Kp.mk hM
  clear hM
  obtain ⟨i0, hi0, hz0, hz1, hz2⟩ := info_parts info26'
  have hmm := @run_makeMap Try.prog
  go_enter Try.func5, Try.ntmps5
  go_upto_if 20 with (fail)
  go_cut [0] (fun v wx => Kp (Few w M v) ∧ wx = w)
  case first =>
    by_cases h8 : 8 < z0.length
    · have hT := K0.out.take (m := 8) (by omega)
      have h8c : 8 ≤ cap0 := hT.2
      have HTT := Kp.mk hT.1
      have HT8 : Kp ((z0.take 8).length ≤ 8) := ⟨by simp; omega⟩
      clear hT
      go_wp2_with fail
      go_meet
      case rel => exact ⟨⟨_, HT8.out, HTT.out⟩, rfl⟩
    · go_wp2_with fail
      go_meet
      case rel => exact ⟨⟨z0, by omega, K0.out⟩, rfl⟩
  case rest =>
    obtain ⟨HF, rfl⟩ := hcut
    clear K0
    obtain ⟨T, hT, hV⟩ := HF.out
    obtain ⟨⟨pt, cp, rfl⟩, _⟩ := hV.shape
    have HV := Kp.mk hV
    have HT := Kp.mk hT
    obtain ⟨n, hn⟩ : ∃ n, n = T.length := ⟨_, rfl⟩
    rw [← hn] at HV hT HF ⊢
    have HN := Kp.mk hn
    clear hn hV HF
    have HAe : Kp (M = wc.heap.size) := HM
    have hml : z1.length ≤ 9223372036854775807 := by have := M0.out.len; unfold maxLen at this; omega
    obtain ⟨ml, hml2⟩ : ∃ ml, ml = z1.length := ⟨_, rfl⟩
    rw [← hml2] at M0 hml ⊢
    have HML := Kp.mk hml2
    clear hml2
    go_wp2_with fail
    go_loopw [7, 8, 9, 10, 11, 25] (fun v s _ _ _ c wr => ∃ (i : Nat) (sb : Bool), i ≤ n ∧ c = .int .i64 i ∧ s = .bool sb ∧ Kp (sb = true → ∀ j, j < i → Near T x2 z1 j) ∧ Kp (∀ j, j < i → tblB (T.getD j default) = true) ∧ Kp (RowsOf hc 3 26 54 wr M v (T.take i)) ∧ Kp (Below M wc wr) ∧ Kp (M ≤ wr.heap.size)) (fun _ _ _ _ _ c _ => n - (intOf c).toNat)
    case atStart => exact ⟨0, true, by omega, rfl, rfl, ⟨fun _ j hj => by omega⟩, ⟨fun j hj => by omega⟩, ⟨RowsOf.nil _ _ _ _ _ _⟩, ⟨by rw [HAe.out]; exact Below.refl _ _⟩, ⟨by rw [HAe.out]; exact Nat.le_refl _⟩⟩
    case round =>
      obtain ⟨i, sb, hi, rfl, rfl, HS, HP, HO, E0, Z0⟩ := hrel
      by_cases hlt : i < n
      · have t1 : (i : Int) < n := by omega
        have HLT := Kp.mk hlt
        have V0 : Kp (TabsIs wr M (.slice pt n cp) T) := ⟨HV.out.below (by rw [← HAe.out]; exact E0.out)⟩
        obtain ⟨tb, tof, ta, tn, tc, rfl, htb, hc0, hH⟩ := V0.out.at (i := i) (by rw [← HN.out]; exact hlt)
        have HH := Kp.mk hH
        have HTK := Kp.mk (take_snocG T (i := i) (by rw [← HN.out]; exact hlt))
        have HPG : Kp (tblB (T.getD i default) = true → ∀ j, j < i + 1 → tblB (T.getD j default) = true) := ⟨fun h j hj => by
          by_cases hji : j < i
          · exact HP.out j hji
          · obtain rfl : j = i := by omega
            exact h⟩
        have HSG : Kp (sb = true → Near T x2 z1 i → ∀ j, j < i + 1 → Near T x2 z1 j) := ⟨fun h0 h j hj => by
          by_cases hji : j < i
          · exact HS.out h0 j hji
          · obtain rfl : j = i := by omega
            exact h⟩
        have HNR : Kp (Near T x2 z1 i ↔ (0 ≤ lookF (T.getD i default) x2 → i < ml ∧ (lookF (T.getD i default) x2).toNat < ml ∧ z1.getD (lookF (T.getD i default) x2).toNat default < z1.getD i default)) := ⟨by rw [HML.out]; exact Iff.rfl⟩
        clear hlt hH htb
        generalize T.getD i default = t at HH HTK HPG HNR
        go_wp2_with fail
        refine (table_any t _ _ _ HH.out).mono ?_
        rintro r w1 ⟨rfl, k1, rfl⟩
        replace HH := Kp.mk (HH.out.below (below_drewN _ k1))
        have E1 : Kp (Below M wc (wr.drewN k1)) := ⟨E0.out.trans ((below_drewN _ k1).mono Z0.out)⟩
        have Z1 : Kp (M ≤ (wr.drewN k1).heap.size) := ⟨Z0.out⟩
        have HO1 := Kp.mk (HO.out.below (below_drewN _ k1))
        clear E0 Z0 HO V0 hc0
        generalize wr.drewN k1 = w1 at HH E1 Z1 HO1 ⊢
        cases htt : tblB t with
        | false =>
          clear htt HPG
          go_wp2_with fail
          refine (awake_any _).mono ?_
          rintro r w2 ⟨rfl, hb⟩
          have E2 : Kp (Below M wc w2) := ⟨E1.out.trans (hb.mono Z1.out)⟩
          clear hb
          go_wp2_with fail
          go_ret
          exact ⟨rfl, by rw [← HAe.out]; exact E2.out⟩
        | true =>
          have HP2 := Kp.mk (HPG.out htt)
          have HT8 := Kp.mk (tblB_len htt)
          have HLO := Kp.mk (look_ok (tblB_ok htt) x2)
          clear htt HPG
          go_wp2_with fail
          refine (to_any t _ _ _ HH.out (by have := HT8.out; omega)).mono ?_
          rintro r w2 ⟨y, rfl, hy, hb⟩
          replace HH := Kp.mk (HH.out.below hb)
          have E2 : Kp (Below M wc w2) := ⟨E1.out.trans (hb.mono Z1.out)⟩
          have Z2 : Kp (M ≤ w2.heap.size) := ⟨Nat.le_trans Z1.out hb.size⟩
          have HO2 := Kp.mk (HO1.out.below hb)
          have HW := Kp.mk (ownsRow_base hy Z1.out)
          clear hb hy E1 Z1 HO1
          obtain ⟨ya, yc, rfl⟩ := (ofRowH HW.out).shape
          obtain ⟨yn, hyn⟩ : ∃ yn, yn = t.length := ⟨_, rfl⟩
          have HYN := Kp.mk hyn
          rw [← hyn] at HW ⊢
          clear hyn
          obtain ⟨vs, hvl, hov, hin⟩ := HO2.out
          have hTi : (T.take i).length = i := by rw [List.length_take]; have := HLT.out; have := HN.out; omega
          rw [hTi] at hov hin hvl
          have HVS := Kp.mk (And.intro hvl (And.intro hov hin))
          have HTI := Kp.mk hTi
          clear hvl hov hin hTi
          go_wp2_with (at_builtin; refine wpList_append_own _ rfl _ _ 38 rfl M 26 i0 (.slice none 0 0) 1 24 Try.underlying38 hi0 hz0 hz1 hz2 rfl (by decide) _ i vs rfl (HVS.out.2.1.alloc _) ⟨w2.heap.size, 0, none⟩ 1 1 [.slice ya yn yc] rfl rfl ?c1 ?c2 ?c3 ?c4 ?c5 ?_)
          case c1 =>
            intro j u hj
            match j, hj with
            | 0, hj => simp at hj; subst hj; simp [Addr.add]
          case c2 =>
            intro u hu
            simp at hu
            subst hu
            rfl
          case c3 => have := HLT.out; unfold maxLen; omega
          case c4 => have := HLT.out; omega
          case c5 => have := Z2.out; simp; omega
          · intro v' w3 hown' hgrow _
            have E3 : Kp (Below M wc w3) := ⟨below_row_grown (E2.out.alloc Z2.out _) (by have := Z2.out; simp; omega) (HVS.out.2.1.alloc _) hgrow⟩
            have Z3 : Kp (M ≤ w3.heap.size) := ⟨by have h8 := hgrow.size; have := Z2.out; simp at h8; omega⟩
            have HO3 : Kp (RowsOf hc 3 26 54 w3 M v' (T.take (i + 1))) := ⟨by
              rw [HTK.out]
              refine RowsOf.push (w := w2.alloc (.cells #[.slice ya yn yc] 26)) (vs := vs) (x := .slice ya yn yc) (by rw [HVS.out.1, HTI.out]) (by rw [HTI.out]; exact HVS.out.2.1.alloc _) (fun i hi => (HVS.out.2.2 i (by rw [← HTI.out]; exact hi)).alloc _) (by rw [← HYN.out]; exact HW.out.alloc _) (by decide) (by rw [HTI.out]; exact hown') hgrow⟩
            have H0 : Kp (HoldsF hc 3 w3 M (.slice ta tn tc) t) := ⟨HH.out.keep (below_row_grown ((Below.refl M w2).alloc Z2.out _) (by have := Z2.out; simp; omega) (HVS.out.2.1.alloc _) hgrow)⟩
            clear hown' hgrow
            go_wp2_with fail
            refine (rlookup_any t x2 _ _ _ H0.out).mono ?_
            rintro r w4 ⟨rfl, rfl⟩
            generalize lookF t x2 = x at HLO HNR
            by_cases hx0 : x = -1
            · have hb0 : decide (0 ≤ x) = false := by simp; omega
              have HNY := Kp.mk (HNR.out.2 (fun h => absurd h (by omega)))
              clear hx0
              go_wp2_with fail
              go_quiet (fail)
              go_wp2_with fail
              exact ⟨⟨i + 1, sb, by have := HLT.out; omega, by go_num, rfl, ⟨fun h => HSG.out h HNY.out⟩, HP2, HO3, ⟨E3.out.trans ((below_drewN _ nq).mono Z3.out)⟩, Z3⟩, by have := HLT.out; simp [intOf]; omega⟩
            · obtain ⟨q, rfl⟩ : ∃ q : Nat, x = q := ⟨x.toNat, by have := HLO.out; omega⟩
              have hb0 : decide (0 ≤ (q : Int)) = true := by simp
              clear hx0
              by_cases h1 : i < ml
              · have hb1 : decide ((ml : Int) ≤ (i : Int)) = false := by simp; omega
                have hb1' : decide (ml ≤ i) = false := by simp; omega
                by_cases h2 : q < ml
                · have hb2 : decide ((ml : Int) ≤ (q : Int)) = false := by simp; omega
                  have hb2' : decide (ml ≤ q) = false := by simp; omega
                  have t4 : (i : Int) < (ml : Int) := by omega
                  have t5 : (q : Int) < (ml : Int) := by omega
                  have M3 := Kp.mk (M0.out.keep E3.out)
                  obtain ⟨mb, mo, rfl, -, -, g1⟩ := M3.out.int (i := i) (by rw [← HML.out]; exact h1)
                  obtain ⟨mb', mo', e9, -, -, g2⟩ := M3.out.int (i := q) (by rw [← HML.out]; exact h2)
                  cases e9
                  have HNQ : Kp (z1.getD q default < z1.getD i default → Near T x2 z1 i) := ⟨fun h => HNR.out.2 (fun _ => ⟨h1, h2, h⟩)⟩
                  clear h1 h2 HNR
                  generalize z1.getD i default = mi at g1 HNQ
                  generalize z1.getD q default = mq at g2 HNQ
                  by_cases h3 : mq < mi
                  · have hb3 : decide (mi ≤ mq) = false := by simp; omega
                    have HNY := Kp.mk (HNQ.out h3)
                    clear h3 HNQ
                    go_wp2_with fail
                    go_quiet (fail)
                    go_wp2_with fail
                    exact ⟨⟨i + 1, sb, by have := HLT.out; omega, by go_num, rfl, ⟨fun h => HSG.out h HNY.out⟩, HP2, HO3, ⟨E3.out.trans ((below_drewN _ nq).mono Z3.out)⟩, Z3⟩, by have := HLT.out; simp [intOf]; omega⟩
                  · have hb3 : decide (mi ≤ mq) = true := by simp; omega
                    clear h3 HNQ
                    go_wp2_with fail
                    go_quiet (fail)
                    go_wp2_with fail
                    exact ⟨⟨i + 1, false, by have := HLT.out; omega, by go_num, rfl, ⟨fun h => by simp at h⟩, HP2, HO3, ⟨E3.out.trans ((below_drewN _ nq).mono Z3.out)⟩, Z3⟩, by have := HLT.out; simp [intOf]; omega⟩
                · have hb2 : decide ((ml : Int) ≤ (q : Int)) = true := by simp; omega
                  have hb2' : decide (ml ≤ q) = true := by simp; omega
                  clear h1 h2
                  go_wp2_with fail
                  go_quiet (fail)
                  go_wp2_with fail
                  exact ⟨⟨i + 1, false, by have := HLT.out; omega, by go_num, rfl, ⟨fun h => by simp at h⟩, HP2, HO3, ⟨E3.out.trans ((below_drewN _ nq).mono Z3.out)⟩, Z3⟩, by have := HLT.out; simp [intOf]; omega⟩
              · have hb1 : decide ((ml : Int) ≤ (i : Int)) = true := by simp; omega
                have hb1' : decide (ml ≤ i) = true := by simp; omega
                clear h1
                go_wp2_with fail
                go_quiet (fail)
                go_wp2_with fail
                exact ⟨⟨i + 1, false, by have := HLT.out; omega, by go_num, rfl, ⟨fun h => by simp at h⟩, HP2, HO3, ⟨E3.out.trans ((below_drewN _ nq).mono Z3.out)⟩, Z3⟩, by have := HLT.out; simp [intOf]; omega⟩
      · obtain rfl : i = n := by omega
        have HIN : Kp (TabsIs wr wr.heap.size u7 T) := ⟨by have h := HO.out.tabs; rw [List.take_of_length_le (by rw [← HN.out]; exact Nat.le_refl _)] at h; exact h⟩
        have HOK : Kp (OkT T) := ⟨fun l hl h hh => by
          obtain ⟨j, hj, rfl⟩ := List.getElem_of_mem hl
          have := HP.out j (by rw [HN.out]; exact hj)
          rw [← gd hj] at this
          exact tblB_ok this h hh⟩
        have HNEAR : Kp (sb = true → ∀ j, j < T.length → Near T x2 z1 j) := ⟨fun h j hj => HS.out h j (by rw [HN.out]; exact hj)⟩
        clear HP HO HS
        obtain ⟨⟨pin, cin, rfl⟩, _⟩ := HIN.out.shape
        rw [← HN.out] at HIN ⊢
        go_wp2_with fail
        obtain ⟨w0, hw0⟩ : ∃ w0, w0 = wr := ⟨_, rfl⟩
        have HIN0 : Kp (TabsIs w0 w0.heap.size (.slice pin i cin) T) := ⟨by rw [hw0]; exact HIN.out⟩
        have Z9 : Kp (M ≤ w0.heap.size) := ⟨by rw [hw0]; exact Z0.out⟩
        have E9 : Kp (Below M wc w0) := ⟨by rw [hw0]; exact E0.out⟩
        have HS9 : Kp (Below w0.heap.size w0 wr) := ⟨by rw [hw0]; exact Below.refl _ _⟩
        have E8 := E0
        clear hw0 HIN E0 Z0
        go_loopw [70] (fun c wr => ∃ j : Nat, j ≤ i ∧ c = .int .i64 j ∧ Kp (Below w0.heap.size w0 wr)) (fun c _ => i - (intOf c).toNat)
        case atStart => exact ⟨0, by omega, rfl, HS9⟩
        case round =>
          clear HS9 E8
          obtain ⟨j, hj, rfl, F0⟩ := hrel
          have E0 : Kp (Below M wc wr) := ⟨E9.out.trans (F0.out.mono Z9.out)⟩
          have Z0 : Kp (M ≤ wr.heap.size) := ⟨Nat.le_trans Z9.out F0.out.size⟩
          by_cases hlt : j < i
          · have t1 : (j : Int) < i := by omega
            have HLT := Kp.mk hlt
            clear hlt
            go_wp2_with fail
            refine (walk_any T j x2 _ _ _ (HIN0.out.below F0.out) HT.out).mono ?_
            have HSND := Kp.mk (walk_sound (T := T) x2 HT.out 9 [] j (WayInv.nil _ _) rfl)
            have HRG := Kp.mk (walk_range (T := T) (dest := x2) HOK.out 9 [] j (fun x hx => by cases hx) (by have := HLT.out; have := HT.out; have := HN.out; omega))
            have HNL : Kp (sb = true → (walkG T x2 9 [] j).2 = false) := ⟨fun h => walk_near HOK.out (HNEAR.out h) 9 [] j (fun x hx => by cases hx)⟩
            generalize walkG T x2 9 [] j = R at HSND HRG HNL ⊢
            rintro r w1 ⟨y1, rfl, hy, hb⟩
            have E1 : Kp (Below M wc w1) := ⟨E0.out.trans (hb.mono Z0.out)⟩
            have Z1 : Kp (M ≤ w1.heap.size) := ⟨Nat.le_trans Z0.out hb.size⟩
            have F1 : Kp (Below w0.heap.size w0 w1) := ⟨F0.out.trans (hb.mono F0.out.size)⟩
            have HY1 := Kp.mk (ofRowI hy)
            clear hb hy E0 Z0 F0
            obtain ⟨way, lp⟩ := R
            cases lp with
            | false =>
              have HG := Kp.mk (HSND.out.cnt)
              obtain ⟨pw, cw, rfl⟩ := HY1.out.shape
              obtain ⟨wl, hwl⟩ : ∃ wl, wl = way.length := ⟨_, rfl⟩
              simp only at HG HRG
              rw [← hwl] at HG HY1 ⊢
              have HWL := Kp.mk hwl
              have hwm : wl ≤ 9223372036854775807 := by rw [hwl]; have := HY1.out.len; unfold maxLen at this; omega
              clear hwl HSND
              go_wp2_with fail
              obtain ⟨MB, hMB⟩ : ∃ MB, MB = w1.heap.size := ⟨_, rfl⟩
              have HMB := Kp.mk hMB
              have E2 : Kp (Below M wc (w1.alloc (.map #[] 0))) := ⟨E1.out.alloc Z1.out _⟩
              have Z2 : Kp (M ≤ MB) := ⟨by rw [hMB]; exact Z1.out⟩
              have OM : Kp ((w1.alloc (.map #[] 0)).ownsMap Try.prog 3 (plainElem (H := Unit) Try.prog 3) MB 0 (.map [])) := ⟨by rw [hMB]; exact World.ownsMap_made _ _ _ _⟩
              have HY2 : Kp (HoldsF ic 1 (w1.alloc (.map #[] 0)) MB (.slice pw wl cw) way) := ⟨by rw [hMB]; exact HY1.out.below (more (Below.refl _ _) _)⟩
              have ZZ : Kp (MB < (w1.alloc (.map #[] 0)).heap.size) := ⟨by rw [hMB]; simp⟩
              rw [← hMB]
              have F2 : Kp (Below w0.heap.size w0 (w1.alloc (.map #[] 0))) := ⟨F1.out.alloc F1.out.size _⟩
              have F2Z : Kp (w0.heap.size ≤ MB) := ⟨by rw [hMB]; exact F1.out.size⟩
              clear hMB HY1 E1 Z1 F1
              generalize w1.alloc (.map #[] 0) = w2 at E2 OM HY2 ZZ F2 ⊢
              go_loopw [17, 87] (fun _ c wr => ∃ (k n2 : Nat) (D : DataW Unit), k ≤ wl ∧ c = .int .i64 k ∧ n2 ≤ k ∧ Kp (Seen D way k) ∧ Kp (wr.ownsMap Try.prog 3 (plainElem (H := Unit) Try.prog 3) MB n2 D) ∧ Kp (Below MB w2 wr)) (fun _ c _ => wl - (intOf c).toNat)
              case atStart => exact ⟨0, 0, .map [], by omega, rfl, by omega, ⟨Seen.start _⟩, OM, ⟨Below.refl _ _⟩⟩
              case round =>
                obtain ⟨k, n2, D, hk, rfl, hn2, HSE, HOM, HB2⟩ := hrel
                by_cases hkl : k < wl
                · have t7 : (k : Int) < wl := by omega
                  obtain ⟨gb, go, rfl, -, -, gc⟩ := (HY2.out.keep HB2.out).int (i := k) (by rw [← HWL.out]; exact hkl)
                  have HKR : Kp (0 ≤ way.getD k default ∧ way.getD k default < 8) := ⟨HRG.out _ (by rw [← gd (by rw [← HWL.out]; exact hkl)]; exact List.getElem_mem _)⟩
                  have HST := Kp.mk (fun (y : Int) => HSE.out.step (HOM.out.tidy law3) (by rw [← HWL.out]; exact hkl) trivial (.lit (.int .i64 y)))
                  have HKL := Kp.mk hkl
                  have hn3 : n2 < 9223372036854775807 := by omega
                  clear hkl HSE
                  generalize way.getD k default = x at gc HKR HST
                  go_wp2_with (first
                    | (at_lookup; refine wpList_lookup_own_int _ rfl _ _ 47 rfl 3 3 .i64 law3 Try.underlying47 Try.underlying3 (zero3 _) MB n2 D rfl HOM.out _ _ rfl (key3 HKR.out) ?_; intro c hat hwc; clear hat hwc)
                    | (at_mapUpdate; refine wpList_mapUpdate_own _ rfl _ _ _ 47 rfl 3 3 law3 Try.underlying47 _ MB n2 D rfl HOM.out (by unfold maxLen; omega) _ _ _ rfl rfl (key3 HKR.out) _ [] (plainElem_int Try.underlying3 (wrap64_wf _)) ?_; intro w7 hown7 hgrow7; (have HO7 := Kp.mk hown7); (have HB7 := Kp.mk (HB2.out.grown hgrow7 (Nat.le_trans (Nat.le_of_lt ZZ.out) HB2.out.size) (fun j hj => by injection hj with hj; omega))); clear hown7 hgrow7))
                  exact ⟨⟨k + 1, n2 + 1, _, by have := HKL.out; omega, by go_num, by omega, ⟨HST.out _⟩, HO7, HB7⟩, by have := HKL.out; simp [intOf]; omega⟩
                · obtain rfl : k = wl := by omega
                  have HSZ : Kp (Maps.size D = k) := ⟨by rw [HSE.out.size]; simpa using HG.out⟩
                  have F3 : Kp (Below w0.heap.size w0 wr) := ⟨by have := HB2.out; exact F2.out.trans (this.mono F2Z.out)⟩
                  have hne : ((k : Int) != (k : Int)) = false := by simp
                  have hrun := HOM.out.len Try.underlying47 3
                  rw [HSZ.out] at hrun
                  go_wp2_with fail
                  exact ⟨⟨j + 1, by have := HLT.out; omega, by go_num, F3⟩, by have := HLT.out; simp [intOf]; omega⟩
            | true =>
              obtain rfl : sb = false := by
                cases sb with
                | false => rfl
                | true => exact absurd (HNL.out rfl) (by simp)
              have HPOS : Kp (1 ≤ way.length) := ⟨by obtain ⟨p, b, e, _⟩ := HSND.out.yes rfl; simp only at e; rw [e]; simp⟩
              have HG := Kp.mk (HSND.out.cnt)
              obtain ⟨pw, cw, rfl⟩ := HY1.out.shape
              obtain ⟨wl, hwl⟩ : ∃ wl, wl = way.length := ⟨_, rfl⟩
              simp only at HG HRG
              rw [← hwl] at HG HY1 HPOS ⊢
              have HWL := Kp.mk hwl
              have hwm : wl ≤ 9223372036854775807 := by rw [hwl]; have := HY1.out.len; unfold maxLen at this; omega
              clear hwl HSND
              go_wp2_with fail
              obtain ⟨MB, hMB⟩ : ∃ MB, MB = w1.heap.size := ⟨_, rfl⟩
              have HMB := Kp.mk hMB
              have E2 : Kp (Below M wc (w1.alloc (.map #[] 0))) := ⟨E1.out.alloc Z1.out _⟩
              have Z2 : Kp (M ≤ MB) := ⟨by rw [hMB]; exact Z1.out⟩
              have OM : Kp ((w1.alloc (.map #[] 0)).ownsMap Try.prog 3 (plainElem (H := Unit) Try.prog 3) MB 0 (.map [])) := ⟨by rw [hMB]; exact World.ownsMap_made _ _ _ _⟩
              have HY2 : Kp (HoldsF ic 1 (w1.alloc (.map #[] 0)) MB (.slice pw wl cw) way) := ⟨by rw [hMB]; exact HY1.out.below (more (Below.refl _ _) _)⟩
              have ZZ : Kp (MB < (w1.alloc (.map #[] 0)).heap.size) := ⟨by rw [hMB]; simp⟩
              rw [← hMB]
              have F2 : Kp (Below w0.heap.size w0 (w1.alloc (.map #[] 0))) := ⟨F1.out.alloc F1.out.size _⟩
              have F2Z : Kp (w0.heap.size ≤ MB) := ⟨by rw [hMB]; exact F1.out.size⟩
              clear hMB HY1 E1 Z1 F1
              generalize w1.alloc (.map #[] 0) = w2 at E2 OM HY2 ZZ F2 ⊢
              go_loopw [17, 87] (fun _ c wr => ∃ (k n2 : Nat) (D : DataW Unit), k ≤ wl ∧ c = .int .i64 k ∧ n2 ≤ k ∧ Kp (Seen D way k) ∧ Kp (wr.ownsMap Try.prog 3 (plainElem (H := Unit) Try.prog 3) MB n2 D) ∧ Kp (Below MB w2 wr)) (fun _ c _ => wl - (intOf c).toNat)
              case atStart => exact ⟨0, 0, .map [], by omega, rfl, by omega, ⟨Seen.start _⟩, OM, ⟨Below.refl _ _⟩⟩
              case round =>
                obtain ⟨k, n2, D, hk, rfl, hn2, HSE, HOM, HB2⟩ := hrel
                by_cases hkl : k < wl
                · have t7 : (k : Int) < wl := by omega
                  obtain ⟨gb, go, rfl, -, -, gc⟩ := (HY2.out.keep HB2.out).int (i := k) (by rw [← HWL.out]; exact hkl)
                  have HKR : Kp (0 ≤ way.getD k default ∧ way.getD k default < 8) := ⟨HRG.out _ (by rw [← gd (by rw [← HWL.out]; exact hkl)]; exact List.getElem_mem _)⟩
                  have HST := Kp.mk (fun (y : Int) => HSE.out.step (HOM.out.tidy law3) (by rw [← HWL.out]; exact hkl) trivial (.lit (.int .i64 y)))
                  have HKL := Kp.mk hkl
                  have hn3 : n2 < 9223372036854775807 := by omega
                  clear hkl HSE
                  generalize way.getD k default = x at gc HKR HST
                  go_wp2_with (first
                    | (at_lookup; refine wpList_lookup_own_int _ rfl _ _ 47 rfl 3 3 .i64 law3 Try.underlying47 Try.underlying3 (zero3 _) MB n2 D rfl HOM.out _ _ rfl (key3 HKR.out) ?_; intro c hat hwc; clear hat hwc)
                    | (at_mapUpdate; refine wpList_mapUpdate_own _ rfl _ _ _ 47 rfl 3 3 law3 Try.underlying47 _ MB n2 D rfl HOM.out (by unfold maxLen; omega) _ _ _ rfl rfl (key3 HKR.out) _ [] (plainElem_int Try.underlying3 (wrap64_wf _)) ?_; intro w7 hown7 hgrow7; (have HO7 := Kp.mk hown7); (have HB7 := Kp.mk (HB2.out.grown hgrow7 (Nat.le_trans (Nat.le_of_lt ZZ.out) HB2.out.size) (fun j hj => by injection hj with hj; omega))); clear hown7 hgrow7))
                  exact ⟨⟨k + 1, n2 + 1, _, by have := HKL.out; omega, by go_num, by omega, ⟨HST.out _⟩, HO7, HB7⟩, by have := HKL.out; simp [intOf]; omega⟩
                · obtain rfl : k = wl := by omega
                  have HSZ : Kp (Maps.size D = k - 1) := ⟨by rw [HSE.out.size]; simpa using HG.out⟩
                  have F3 : Kp (Below w0.heap.size w0 wr) := ⟨by have := HB2.out; exact F2.out.trans (this.mono F2Z.out)⟩
                  have hne : (((k - 1 : Nat) : Int) != (k : Int) - 1) = false := by have := HPOS.out; simp; omega
                  have hrun := HOM.out.len Try.underlying47 3
                  rw [HSZ.out] at hrun
                  go_wp2_with fail
                  exact ⟨⟨j + 1, by have := HLT.out; omega, by go_num, F3⟩, by have := HLT.out; simp [intOf]; omega⟩
          · obtain rfl : j = i := by omega
            go_wp2_with fail
            refine (awake_any _).mono ?_
            rintro r w9 ⟨rfl, hb⟩
            have E5 : Kp (Below M wc w9) := ⟨E0.out.trans (hb.mono Z0.out)⟩
            clear hb
            go_wp2_with fail
            go_ret
            exact ⟨rfl, by rw [← HAe.out]; exact E5.out⟩
end Go.Proofs.Ytkeoebldadpoiaa
