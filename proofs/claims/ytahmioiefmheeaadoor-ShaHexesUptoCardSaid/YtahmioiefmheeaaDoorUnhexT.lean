/-
  The document's Unhex.
-/
import Derived.Test.YtahmioiefmheeaaDoorUnhex
import Derived.Deep.QuietTactic
import Derived.BigQuiet
namespace Go.Proofs.YtahmioiefmheeaaDoor
open Go.RowKit

theorem toNat_ne {x y : UInt8} (h : ¬ x = y) : (((x.toNat : Nat) : Int) == ((y.toNat : Nat) : Int)) = false := by
  apply beq_false_of_ne
  intro e
  exact h (UInt8.toNat_inj.1 (by omega))
set_option maxRecDepth 100000 in
set_option maxHeartbeats 8000000 in
theorem runhex_any (c : List UInt8) (w : World) (hl : c.length ≤ 70368744177664) :
    Calls Tryd.prog 19 #[.string ⟨c.toArray⟩] w fun r w' => ∃ v, r = .returned (.tuple #[v, .int .i64 (unhE c)]) ∧ HoldsB w' w'.heap.size v (unhL c) ∧ Below w.heap.size w w' := by
  obtain ⟨s, hs⟩ : ∃ s, s = ByteArray.mk c.toArray := ⟨_, rfl⟩
  have hsz : s.size = c.length := by rw [hs]; simp [ByteArray.size]
  have HI : Kp (∀ j, j < c.length → ∀ w, (Instr.index 9 (.string s) (.int .i64 ((j : Nat) : Int))).run Tryd.prog w = .ok (.int .u8 (c.getD j 0).toNat) w) := ⟨fun j hj w => by rw [hs]; exact idxS c j hj w⟩
  rw [← hs]
  clear hs
  obtain ⟨A, hA⟩ : ∃ A, A = w.heap.size := ⟨_, rfl⟩
  have HA := Kp.mk hA
  obtain ⟨n, hn⟩ : ∃ n, n = c.length := ⟨_, rfl⟩
  have HN := Kp.mk hn
  rw [← hn] at hsz hl
  by_cases he : n % 2 = 0
  · obtain ⟨m, hm⟩ : ∃ m, m = n / 2 := ⟨_, rfl⟩
    have HM : Kp (n = 2 * m) := ⟨by omega⟩
    have hm' : m ≤ 70368744177664 := by omega
    have ht : (n : Int).tmod 2 = 0 := by rw [Int.tmod_eq_emod_of_nonneg (by omega)]; omega
    clear hn he hm
    go_enter Tryd.func19, Tryd.ntmps19
    go_wp2_with fail
    go_loopw [4, 5] (fun v4 c5 wr => ∃ (k : Nat) (a8 : Option Addr) (c8 : Nat), k ≤ m ∧ v4 = .slice a8 k c8 ∧ c5 = .int .i64 (2 * (k : Int)) ∧ Kp (unhK c k = true) ∧ Kp (wr.ownsRow A 5 1 (.slice a8 k c8) k (bv (unhI c k))) ∧ Kp (Below A w wr ∧ A ≤ wr.heap.size)) (fun _ c _ => n - (intOf c).toNat)
    case atStart => exact ⟨0, _, _, by omega, rfl, rfl, ⟨rfl⟩, ⟨World.ownsRow_nil _ _ _ _⟩, ⟨by rw [hA]; exact Below.refl _ _, by rw [hA]; exact Nat.le_refl _⟩⟩
    case round =>
      obtain ⟨k, a8, c8, hk, rfl, rfl, G0, G1, G2⟩ := hrel
      clear hA ht
      by_cases hlt : k < m
      · have i1 : ∀ w, (Instr.index 9 (.string s) (.int .i64 (2 * (k : Int)))).run Tryd.prog w = .ok (.int .u8 (c.getD (2 * k) 0).toNat) w := fun w => HI.out (2 * k) (by have := HN.out; have := HM.out; omega) w
        have i2 : ∀ w, (Instr.index 9 (.string s) (.int .i64 (2 * (k : Int) + 1))).run Tryd.prog w = .ok (.int .u8 (c.getD (2 * k + 1) 0).toNat) w := fun w => HI.out (2 * k + 1) (by have := HN.out; have := HM.out; omega) w
        obtain ⟨x, hx⟩ : ∃ x, x = c.getD (2 * k) 0 := ⟨_, rfl⟩
        obtain ⟨y, hy⟩ : ∃ y, y = c.getD (2 * k + 1) 0 := ⟨_, rfl⟩
        rw [← hx] at i1
        rw [← hy] at i2
        have HA1 : Kp (dig x 16 = digA c k) := ⟨by rw [hx]; rfl⟩
        have HB1 : Kp (dig y 16 = digB c k) := ⟨by rw [hy]; rfl⟩
        have hlt' : 2 * (k : Int) < (n : Int) := by have := HM.out; omega
        have hlt2 : 2 * (k : Int) + 1 < (n : Int) := by have := HM.out; omega
        have hw1 : IntKind.i64.wrap (2 * (k : Int) + 1) = 2 * (k : Int) + 1 := IntWalk.i64_in _ (by omega)
        clear hx hy
        obtain ⟨w0, hw0⟩ : ∃ w0, w0 = wr := ⟨_, rfl⟩
        go_wp2_with fail
        go_loopw [6, 7, 8] (fun d6 d7 d8 wq => ∃ j : Nat, j ≤ 16 ∧ d6 = .int .i64 (dig x j) ∧ d7 = .int .i64 (dig y j) ∧ d8 = .int .i64 j ∧ Kp (Below w0.heap.size w0 wq)) (fun _ _ d _ => 16 - (intOf d).toNat)
        case atStart => exact ⟨0, by omega, rfl, rfl, rfl, ⟨by rw [hw0]; exact Below.refl _ _⟩⟩
        case round =>
          obtain ⟨j, hj, rfl, rfl, rfl, F1⟩ := hrel
          rw [← hw0] at G1 G2
          clear hw0
          by_cases h16 : j < 16
          · have CD : Kp (∀ w1, Calls Tryd.prog 77 #[.int .u8 (j : Int)] w1 fun r w' => r = .returned (.int .u8 (hd (j : Int)).toNat) ∧ w' = w1) := ⟨fun w1 => digit_any j (by omega) (by omega) w1⟩
            have hj16 : (j : Int) < 16 := by omega
            have CD2 : Kp (∀ w1, Calls Tryd.prog 77 #[.int .u8 (IntKind.u8.wrap (j : Int))] w1 fun r w' => r = .returned (.int .u8 (hd (j : Int)).toNat) ∧ w' = w1) := ⟨fun w1 => by rw [show IntKind.u8.wrap (j : Int) = j by rw [IntKind.wrap_u8']; omega]; exact CD.out w1⟩
            by_cases e1 : x = hd (j : Int)
            · by_cases e2 : y = hd (j : Int)
              · have n1 : Kp (dig x (j + 1) = (j : Int)) := ⟨by rw [dig, if_pos e1]⟩
                have n2 : Kp (dig y (j + 1) = (j : Int)) := ⟨by rw [dig, if_pos e2]⟩
                have q1 : (((x.toNat : Nat) : Int) == ((hd (j : Int)).toNat : Int)) = true := by rw [← e1]; exact beq_self_eq_true _
                have q2 : (((y.toNat : Nat) : Int) == ((hd (j : Int)).toNat : Int)) = true := by rw [← e2]; exact beq_self_eq_true _
                clear e1 e2
                generalize ((hd (j : Int)).toNat : Int) = D at *
                generalize ((x.toNat : Nat) : Int) = X at *
                generalize ((y.toNat : Nat) : Int) = Y at *
                generalize dig x j = d1 at *
                generalize dig y j = d2 at *
                go_wp2_with fail
                go_quiet ((go_at_call 77; first | exact Calls.quiet_of_same (CD.out _) | exact (CD.out _).mono fun e w2 h => ⟨h.1, _, h.2⟩ | exact (CD2.out _).mono fun e w2 h => ⟨h.1, _, h.2⟩))
                go_wp2_with fail
                go_quiet ((go_at_call 77; first | exact Calls.quiet_of_same (CD.out _) | exact (CD.out _).mono fun e w2 h => ⟨h.1, _, h.2⟩ | exact (CD2.out _).mono fun e w2 h => ⟨h.1, _, h.2⟩))
                go_wp2_with fail
                exact ⟨⟨j + 1, by omega, by rw [n1.out], by rw [n2.out], by go_num, ⟨⟨F1.out.os, F1.out.tape, F1.out.output, F1.out.size, F1.out.block⟩⟩⟩, by simp [intOf]; omega⟩
              · have n1 : Kp (dig x (j + 1) = (j : Int)) := ⟨by rw [dig, if_pos e1]⟩
                have n2 : Kp (dig y (j + 1) = dig y j) := ⟨by rw [dig, if_neg e2]⟩
                have q1 : (((x.toNat : Nat) : Int) == ((hd (j : Int)).toNat : Int)) = true := by rw [← e1]; exact beq_self_eq_true _
                have q2 : (((y.toNat : Nat) : Int) == ((hd (j : Int)).toNat : Int)) = false := toNat_ne e2
                clear e1 e2
                generalize ((hd (j : Int)).toNat : Int) = D at *
                generalize ((x.toNat : Nat) : Int) = X at *
                generalize ((y.toNat : Nat) : Int) = Y at *
                generalize dig x j = d1 at *
                generalize dig y j = d2 at *
                go_wp2_with fail
                go_quiet ((go_at_call 77; first | exact Calls.quiet_of_same (CD.out _) | exact (CD.out _).mono fun e w2 h => ⟨h.1, _, h.2⟩ | exact (CD2.out _).mono fun e w2 h => ⟨h.1, _, h.2⟩))
                go_wp2_with fail
                go_quiet ((go_at_call 77; first | exact Calls.quiet_of_same (CD.out _) | exact (CD.out _).mono fun e w2 h => ⟨h.1, _, h.2⟩ | exact (CD2.out _).mono fun e w2 h => ⟨h.1, _, h.2⟩))
                go_wp2_with fail
                exact ⟨⟨j + 1, by omega, by rw [n1.out], by rw [n2.out], by go_num, ⟨⟨F1.out.os, F1.out.tape, F1.out.output, F1.out.size, F1.out.block⟩⟩⟩, by simp [intOf]; omega⟩
            · by_cases e2 : y = hd (j : Int)
              · have n1 : Kp (dig x (j + 1) = dig x j) := ⟨by rw [dig, if_neg e1]⟩
                have n2 : Kp (dig y (j + 1) = (j : Int)) := ⟨by rw [dig, if_pos e2]⟩
                have q1 : (((x.toNat : Nat) : Int) == ((hd (j : Int)).toNat : Int)) = false := toNat_ne e1
                have q2 : (((y.toNat : Nat) : Int) == ((hd (j : Int)).toNat : Int)) = true := by rw [← e2]; exact beq_self_eq_true _
                clear e1 e2
                generalize ((hd (j : Int)).toNat : Int) = D at *
                generalize ((x.toNat : Nat) : Int) = X at *
                generalize ((y.toNat : Nat) : Int) = Y at *
                generalize dig x j = d1 at *
                generalize dig y j = d2 at *
                go_wp2_with fail
                go_quiet ((go_at_call 77; first | exact Calls.quiet_of_same (CD.out _) | exact (CD.out _).mono fun e w2 h => ⟨h.1, _, h.2⟩ | exact (CD2.out _).mono fun e w2 h => ⟨h.1, _, h.2⟩))
                go_wp2_with fail
                go_quiet ((go_at_call 77; first | exact Calls.quiet_of_same (CD.out _) | exact (CD.out _).mono fun e w2 h => ⟨h.1, _, h.2⟩ | exact (CD2.out _).mono fun e w2 h => ⟨h.1, _, h.2⟩))
                go_wp2_with fail
                exact ⟨⟨j + 1, by omega, by rw [n1.out], by rw [n2.out], by go_num, ⟨⟨F1.out.os, F1.out.tape, F1.out.output, F1.out.size, F1.out.block⟩⟩⟩, by simp [intOf]; omega⟩
              · have n1 : Kp (dig x (j + 1) = dig x j) := ⟨by rw [dig, if_neg e1]⟩
                have n2 : Kp (dig y (j + 1) = dig y j) := ⟨by rw [dig, if_neg e2]⟩
                have q1 : (((x.toNat : Nat) : Int) == ((hd (j : Int)).toNat : Int)) = false := toNat_ne e1
                have q2 : (((y.toNat : Nat) : Int) == ((hd (j : Int)).toNat : Int)) = false := toNat_ne e2
                clear e1 e2
                generalize ((hd (j : Int)).toNat : Int) = D at *
                generalize ((x.toNat : Nat) : Int) = X at *
                generalize ((y.toNat : Nat) : Int) = Y at *
                generalize dig x j = d1 at *
                generalize dig y j = d2 at *
                go_wp2_with fail
                go_quiet ((go_at_call 77; first | exact Calls.quiet_of_same (CD.out _) | exact (CD.out _).mono fun e w2 h => ⟨h.1, _, h.2⟩ | exact (CD2.out _).mono fun e w2 h => ⟨h.1, _, h.2⟩))
                go_wp2_with fail
                go_quiet ((go_at_call 77; first | exact Calls.quiet_of_same (CD.out _) | exact (CD.out _).mono fun e w2 h => ⟨h.1, _, h.2⟩ | exact (CD2.out _).mono fun e w2 h => ⟨h.1, _, h.2⟩))
                go_wp2_with fail
                exact ⟨⟨j + 1, by omega, by rw [n1.out], by rw [n2.out], by go_num, ⟨⟨F1.out.os, F1.out.tape, F1.out.output, F1.out.size, F1.out.block⟩⟩⟩, by simp [intOf]; omega⟩
          · have e : j = 16 := by omega
            subst e
            have hge : ¬ (((16 : Nat) : Int) < 16) := by omega
            have hda := dig_le x 16 (Nat.le_refl _)
            have hdb := dig_le y 16 (Nat.le_refl _)
            rw [HA1.out] at hda ⊢
            rw [HB1.out] at hdb ⊢
            have R1 := Kp.mk (ownsRow_below G1.out F1.out)
            have F2 : Kp (Below A w wr ∧ A ≤ wr.heap.size) := ⟨G2.out.1.trans (F1.out.mono G2.out.2), Nat.le_trans G2.out.2 F1.out.size⟩
            clear F1 G1 G2 i1 i2
            by_cases hgood : 0 ≤ digA c k ∧ 0 ≤ digB c k
            · have HG : Kp (unhK c (k + 1) = true) := ⟨by rw [unhK, G0.out]; simp [hgood.1, hgood.2]⟩
              have HS := Kp.mk (unhI_snoc c k)
              obtain ⟨g1, g2⟩ := hgood
              generalize digA c k = da at *
              generalize digB c k = db at *
              have t1 : ¬ da < 0 := by omega
              have t2 : ¬ db < 0 := by omega
              have hlk : k + 1 ≤ 70368744177664 := by omega
              go_wp2_with (at_builtin; refine wpList_append_holds rfl _ _ rfl A _ _ _ rfl (R1.out.alloc _) _ _ [16 * da + db] rfl (one_holds wr _ (by omega)) ?d0 ?d1 ?_)
              case d0 => first | omega | (simp; omega)
              case d1 => have := F2.out.2; first | omega | (simp; omega)
              intro v2 w2 ho hg
              have hbel : Below A w w2 := below_row_grown (F2.out.1.alloc F2.out.2 _) (by have := F2.out.2; simp; omega) (R1.out.alloc _) hg
              have ho2 : w2.ownsRow A 5 1 v2 (k + 1) (bv (unhI c (k + 1))) := by
                rw [HS.out, Int.emod_eq_of_lt (by omega) (by omega)]
                simpa using ho
              obtain ⟨a2, c2, rfl⟩ := row_slice ho2
              have HO2 := Kp.mk ho2
              have HB2 : Kp (Below A w w2 ∧ A ≤ w2.heap.size) := ⟨hbel, by have := HA.out; have := hbel.size; omega⟩
              clear ho hg hbel ho2
              go_wp2_with fail
              exact ⟨⟨k + 1, a2, c2, by omega, rfl, by go_num, HG, HO2, HB2⟩, by simp [intOf]; omega⟩
            · have HG := unhOk_bad c k (by have := HN.out; have := HM.out; omega) hgood
              have HE := Kp.mk HG.1
              have HL := Kp.mk HG.2
              clear HG
              generalize digA c k = da at *
              generalize digB c k = db at *
              by_cases t1 : da < 0
              · go_wp2_with fail
                go_ret2
                exact ⟨.slice none 0 0, by rw [HE.out]; first | done | rfl, by rw [HL.out]; exact HoldsB.nil _ _, by rw [← HA.out]; exact F2.out.1⟩
              · have t2 : db < 0 := by omega
                go_wp2_with fail
                go_ret2
                exact ⟨.slice none 0 0, by rw [HE.out]; first | done | rfl, by rw [HL.out]; exact HoldsB.nil _ _, by rw [← HA.out]; exact F2.out.1⟩
      · have e : k = m := by omega
        subst e
        have hge : ¬ (2 * (k : Int) < (n : Int)) := by have := HM.out; omega
        have HG := unhOk_all c (by have := HN.out; have := HM.out; omega) (by have h := G0.out; rw [show k = c.length / 2 by have := HN.out; have := HM.out; omega] at h; exact h)
        have HE := Kp.mk HG.1
        have HL : Kp (unhL c = unhI c k) := ⟨by rw [HG.2, show k = c.length / 2 by have := HN.out; have := HM.out; omega]⟩
        clear HG
        have HB : Kp (HoldsB wr wr.heap.size (.slice a8 k c8) (unhI c k)) := ⟨HoldsB.ofRow (unhI_bytes c k) (by rw [unhI_len]; exact G1.out)⟩
        go_wp2_with fail
        go_ret2
        exact ⟨_, by rw [HE.out]; first | done | rfl, by rw [HL.out]; exact HB.out, by rw [← HA.out]; exact G2.out.1⟩
  · have HG := unhOk_odd c (by rw [← hn]; exact he)
    have HE := Kp.mk HG.1
    have HL := Kp.mk HG.2
    have ht : (n : Int).tmod 2 = 1 := by rw [Int.tmod_eq_emod_of_nonneg (by omega)]; omega
    clear HG hn he
    go_enter Tryd.func19, Tryd.ntmps19
    go_wp2_with fail
    go_ret2
    exact ⟨.slice none 0 0, by rw [HE.out]; first | done | rfl, by rw [HL.out]; exact HoldsB.nil _ _, Below.refl _ _⟩
end Go.Proofs.YtahmioiefmheeaaDoor
