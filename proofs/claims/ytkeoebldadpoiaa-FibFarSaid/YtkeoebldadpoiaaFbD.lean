/-
  The two Diffs.
-/
import Derived.Test.YtkeoebldadpoiaaFbC
namespace Go.Proofs.Ytkeoebldadpoiaa
open Go.RowKit

def diffL (a b : List H3) : Nat → List H3
  | 0 => []
  | k + 1 => if lookF a k = lookF b k then diffL a b k else diffL a b k ++ [⟨k, lookF a k, lookF b k⟩]
theorem diffL_len (a b : List H3) : ∀ k, (diffL a b k).length ≤ k
  | 0 => Nat.le_refl _
  | k + 1 => by
    have := diffL_len a b k
    unfold diffL
    split
    · omega
    · simp; omega
theorem diffL_self (a : List H3) : ∀ k, diffL a a k = []
  | 0 => rfl
  | k + 1 => by unfold diffL; rw [if_pos rfl]; exact diffL_self a k
theorem diffL_yes {a b : List H3} {k : Nat} (h : lookF a k = lookF b k) : diffL a b (k + 1) = diffL a b k := by rw [diffL, if_pos h]
theorem diffL_no {a b : List H3} {k : Nat} (h : ¬ lookF a k = lookF b k) : diffL a b (k + 1) = diffL a b k ++ [⟨k, lookF a k, lookF b k⟩] := by rw [diffL, if_neg h]
set_option maxHeartbeats 3200000 in
theorem diff_any (l1 l2 : List H3) (M1 M2 : Nat) (v1 v2 : Value) (w : World) (hv1 : HoldsF hc 3 w M1 v1 l1) (hv2 : HoldsF hc 3 w M2 v2 l2) :
    Calls Try.prog 8 #[v1, v2] w (RowPost 34 (diffL l1 l2 8) w) := by
  have H1 := Kp.mk hv1
  have H2 := Kp.mk hv2
  clear hv1 hv2
  obtain ⟨i0, hi0, hz0, hz1, hz2⟩ := info_parts info34'
  obtain ⟨A, hA⟩ : ∃ A, A = w.heap.size := ⟨_, rfl⟩
  have HAe := Kp.mk hA
  clear hA
  go_enter Try.func8, Try.ntmps8
  go_wp2_with fail
  go_loopw [5, 8] (fun v c wr => ∃ i : Nat, i ≤ 8 ∧ c = .int .i64 i ∧ Kp (wr.ownsRow A 34 3 v (diffL l1 l2 i).length (hcs (diffL l1 l2 i))) ∧ Kp (Below A w wr) ∧ Kp (A ≤ wr.heap.size)) (fun _ c _ => 8 - (intOf c).toNat)
  case atStart => exact ⟨0, by omega, rfl, ⟨World.ownsRow_nil _ _ _ _⟩, ⟨by rw [HAe.out]; exact Below.refl _ _⟩, ⟨by rw [HAe.out]; exact Nat.le_refl _⟩⟩
  case round =>
    obtain ⟨i, hi, rfl, HO, E0, Z0⟩ := hrel
    by_cases hlt : i < 8
    · have t1 : (i : Int) < 8 := by omega
      have HLT := Kp.mk hlt
      clear hlt hi
      go_wp2_with fail
      refine (lookup_any l1 i M1 v1 _ (H1.out.below (by rw [← HAe.out]; exact E0.out))).mono ?_
      rintro r w1 ⟨rfl, hb⟩
      have E1 : Kp (Below A w w1) := ⟨E0.out.trans (hb.mono Z0.out)⟩
      have Z1 : Kp (A ≤ w1.heap.size) := ⟨Nat.le_trans Z0.out hb.size⟩
      have HO1 := Kp.mk (ownsRow_below HO.out hb)
      clear hb HO E0 Z0
      go_wp2_with fail
      refine (lookup_any l2 i M2 v2 _ (H2.out.below (by rw [← HAe.out]; exact E1.out))).mono ?_
      rintro r w2 ⟨rfl, hb⟩
      have E2 : Kp (Below A w w2) := ⟨E1.out.trans (hb.mono Z1.out)⟩
      have Z2 : Kp (A ≤ w2.heap.size) := ⟨Nat.le_trans Z1.out hb.size⟩
      have HO2 := Kp.mk (ownsRow_below HO1.out hb)
      clear hb HO1 E1 Z1
      have HY := Kp.mk (diffL_yes (a := l1) (b := l2) (k := i))
      have HX := Kp.mk (diffL_no (a := l1) (b := l2) (k := i))
      have HL := Kp.mk (diffL_len l1 l2 i)
      generalize lookF l1 i = x at HY HX
      generalize lookF l2 i = y at HY HX
      generalize diffL l1 l2 i = D at *
      cases hxy : (x == y) with
      | true =>
        have hxy2 : (x != y) = false := by simp [bne, hxy]
        have HE : Kp (x = y) := ⟨by simpa using hxy⟩
        go_wp2_with fail
        exact ⟨⟨i + 1, by have := HLT.out; omega, by go_num, ⟨by rw [HY.out HE.out]; exact (HO2.out.alloc _)⟩, ⟨E2.out.alloc Z2.out _⟩, ⟨by have := Z2.out; simp; omega⟩⟩, by have := HLT.out; simp [intOf]; omega⟩
      | false =>
        have hxy2 : (x != y) = true := by simp [bne, hxy]
        have HE : Kp (¬ x = y) := ⟨by simpa using hxy⟩
        go_wp2_with (at_builtin; refine wpList_append_own _ rfl _ _ 24 rfl A 34 i0 (.agg #[.int .i64 0, .int .i64 0, .int .i64 0]) 3 24 Try.underlying24 hi0 hz0 hz1 hz2 rfl (by decide) _ D.length (hcs D) rfl ((HO2.out.alloc _).alloc _) ⟨w2.heap.size + 1, 0, none⟩ 1 1 [.int .i64 i, .int .i64 x, .int .i64 y] rfl rfl ?c1 ?c2 ?c3 ?c4 ?c5 ?_)
        case c1 =>
          intro j u hj
          match j, hj with
          | 0, hj => simp at hj; subst hj; simp [Addr.add]
          | 1, hj => simp at hj; subst hj; simp [Addr.add]
          | 2, hj => simp at hj; subst hj; simp [Addr.add]
        case c2 =>
          intro u hu
          simp at hu
          rcases hu with rfl | rfl | rfl <;> rfl
        case c3 => have := HL.out; have := HLT.out; unfold maxLen; omega
        case c4 => have := HL.out; have := HLT.out; omega
        case c5 => have := Z2.out; simp; omega
        · intro v' w3 hown' hgrow _
          have E3 : Kp (Below A w w3) := ⟨below_row_grown ((E2.out.alloc Z2.out _).alloc (by have := Z2.out; simp; omega) _) (by have := Z2.out; simp; omega) ((HO2.out.alloc _).alloc _) hgrow⟩
          have Z3 : Kp (A ≤ w3.heap.size) := ⟨by have h8 := hgrow.size; have := Z2.out; simp at h8; omega⟩
          have HO3 : Kp (w3.ownsRow A 34 3 v' (D ++ [(⟨i, x, y⟩ : H3)]).length (hcs (D ++ [(⟨i, x, y⟩ : H3)]))) := ⟨by rw [← hcs_snoc, List.length_append]; exact hown'⟩
          rw [← HX.out HE.out] at HO3
          clear hown' hgrow
          go_wp2_with fail
          exact ⟨⟨i + 1, by have := HLT.out; omega, by go_num, HO3, E3, Z3⟩, by have := HLT.out; simp [intOf]; omega⟩
    · obtain rfl : i = 8 := by omega
      go_wp2_with fail
      go_ret
      exact ⟨_, rfl, by rw [← HAe.out]; exact HO.out, by rw [← HAe.out]; exact E0.out⟩
set_option maxHeartbeats 3200000 in
theorem rdiff_any (l1 l2 : List H3) (M1 M2 : Nat) (v1 v2 : Value) (w : World) (hv1 : HoldsF hc 3 w M1 v1 l1) (hv2 : HoldsF hc 3 w M2 v2 l2) :
    Calls Try.prog 11 #[v1, v2] w (RowPost 35 (diffL l1 l2 8) w) := by
  have H1 := Kp.mk hv1
  have H2 := Kp.mk hv2
  clear hv1 hv2
  obtain ⟨i0, hi0, hz0, hz1, hz2⟩ := info_parts info35'
  obtain ⟨A, hA⟩ : ∃ A, A = w.heap.size := ⟨_, rfl⟩
  have HAe := Kp.mk hA
  clear hA
  go_enter Try.func11, Try.ntmps11
  go_wp2_with fail
  go_loopw [5, 6] (fun v c wr => ∃ i : Nat, i ≤ 8 ∧ c = .int .i64 i ∧ Kp (wr.ownsRow A 35 3 v (diffL l1 l2 i).length (hcs (diffL l1 l2 i))) ∧ Kp (Below A w wr) ∧ Kp (A ≤ wr.heap.size)) (fun _ c _ => 8 - (intOf c).toNat)
  case atStart => exact ⟨0, by omega, rfl, ⟨World.ownsRow_nil _ _ _ _⟩, ⟨by rw [HAe.out]; exact Below.refl _ _⟩, ⟨by rw [HAe.out]; exact Nat.le_refl _⟩⟩
  case round =>
    obtain ⟨i, hi, rfl, HO, E0, Z0⟩ := hrel
    by_cases hlt : i < 8
    · have t1 : (i : Int) < 8 := by omega
      have HLT := Kp.mk hlt
      have G1 : Kp (HoldsF hc 3 wr M1 v1 l1) := ⟨H1.out.below (by rw [← HAe.out]; exact E0.out)⟩
      have G2 : Kp (HoldsF hc 3 wr M2 v2 l2) := ⟨H2.out.below (by rw [← HAe.out]; exact E0.out)⟩
      clear hlt hi
      go_wp2_with fail
      refine (rlookup_any l1 i M1 v1 _ G1.out).mono ?_
      rintro r w1 ⟨rfl, rfl⟩
      go_wp2_with fail
      refine (rlookup_any l2 i M2 v2 _ G2.out).mono ?_
      rintro r w2 ⟨rfl, rfl⟩
      have HR1 := Kp.mk (rlookup_any l1 i M1 v1 _ G1.out)
      have HR2 := Kp.mk (rlookup_any l2 i M2 v2 _ G2.out)
      have HY := Kp.mk (diffL_yes (a := l1) (b := l2) (k := i))
      have HX := Kp.mk (diffL_no (a := l1) (b := l2) (k := i))
      have HL := Kp.mk (diffL_len l1 l2 i)
      generalize lookF l1 i = x at HY HX HR1
      generalize lookF l2 i = y at HY HX HR2
      generalize diffL l1 l2 i = D at *
      cases hxy : (x == y) with
      | true =>
        have hxy2 : (x != y) = false := by simp [bne, hxy]
        have HE : Kp (x = y) := ⟨by simpa using hxy⟩
        go_wp2_with fail
        exact ⟨⟨i + 1, by have := HLT.out; omega, by go_num, ⟨by rw [HY.out HE.out]; exact HO.out⟩, E0, Z0⟩, by have := HLT.out; simp [intOf]; omega⟩
      | false =>
        have hxy2 : (x != y) = true := by simp [bne, hxy]
        have HE : Kp (¬ x = y) := ⟨by simpa using hxy⟩
        go_wp2_with fail
        refine HR1.out.mono ?_
        rintro r w1 ⟨rfl, rfl⟩
        go_wp2_with fail
        refine HR2.out.mono ?_
        rintro r w2 ⟨rfl, rfl⟩
        go_wp2_with (at_builtin; refine wpList_append_own _ rfl _ _ 29 rfl A 35 i0 (.agg #[.int .i64 0, .int .i64 0, .int .i64 0]) 3 24 Try.underlying29 hi0 hz0 hz1 hz2 rfl (by decide) _ D.length (hcs D) rfl (HO.out.alloc _) ⟨wr.heap.size, 0, none⟩ 1 1 [.int .i64 i, .int .i64 x, .int .i64 y] rfl rfl ?c1 ?c2 ?c3 ?c4 ?c5 ?_)
        case c1 =>
          intro j u hj
          match j, hj with
          | 0, hj => simp at hj; subst hj; simp [Addr.add]
          | 1, hj => simp at hj; subst hj; simp [Addr.add]
          | 2, hj => simp at hj; subst hj; simp [Addr.add]
        case c2 =>
          intro u hu
          simp at hu
          rcases hu with rfl | rfl | rfl <;> rfl
        case c3 => have := HL.out; have := HLT.out; unfold maxLen; omega
        case c4 => have := HL.out; have := HLT.out; omega
        case c5 => have := Z0.out; simp; omega
        · intro v' w3 hown' hgrow _
          have E3 : Kp (Below A w w3) := ⟨below_row_grown (E0.out.alloc Z0.out _) (by have := Z0.out; simp; omega) (HO.out.alloc _) hgrow⟩
          have Z3 : Kp (A ≤ w3.heap.size) := ⟨by have h8 := hgrow.size; have := Z0.out; simp at h8; omega⟩
          have HO3 : Kp (w3.ownsRow A 35 3 v' (D ++ [(⟨i, x, y⟩ : H3)]).length (hcs (D ++ [(⟨i, x, y⟩ : H3)]))) := ⟨by rw [← hcs_snoc, List.length_append]; exact hown'⟩
          rw [← HX.out HE.out] at HO3
          clear hown' hgrow
          go_wp2_with fail
          exact ⟨⟨i + 1, by have := HLT.out; omega, by go_num, HO3, E3, Z3⟩, by have := HLT.out; simp [intOf]; omega⟩
    · obtain rfl : i = 8 := by omega
      go_wp2_with fail
      go_ret
      exact ⟨_, rfl, by rw [← HAe.out]; exact HO.out, by rw [← HAe.out]; exact E0.out⟩
end Go.Proofs.Ytkeoebldadpoiaa
