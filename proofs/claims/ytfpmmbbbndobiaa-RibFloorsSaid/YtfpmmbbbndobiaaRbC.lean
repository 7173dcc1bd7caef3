/-
  isOther, better, turned, turn, Lookup, New.
-/
import Derived.Test.YtfpmmbbbndobiaaRbB
namespace Go.Proofs.Ytfpmmbbbndobiaa
open Go.RowKit

theorem other_any (T : TB) (t : Nat) (n : Int) (w : World) (h : Blk w t T.obj) : Calls Try.prog 40 #[.pointer (some ⟨t, 0, none⟩), .int .i64 n] w fun r w' => r = .returned (.bool (ndB n && n != T.self)) ∧ w = w' := by
  have c0 : w.cell? ⟨t, 0, none⟩ = some (.int .i64 T.self) := h.cell 0
  clear h
  have HN := fun w1 => node_any n w1
  cases hn : ndB n with
  | false =>
    rw [hn] at HN
    clear hn
    go_enter Try.func40, Try.ntmps40
    go_wp2_with fail
    refine (HN _).mono ?_
    rintro r w1 ⟨rfl, rfl⟩
    go_wp2_with fail
    go_ret
    exact ⟨rfl, rfl⟩
  | true =>
    rw [hn] at HN
    clear hn
    go_enter Try.func40, Try.ntmps40
    go_wp2_with fail
    refine (HN _).mono ?_
    rintro r w1 ⟨rfl, rfl⟩
    go_wp2_with fail
    go_ret
    exact ⟨rfl, rfl⟩
theorem owc_at {w : World} {B : Nat} {o : OW} (h : Blk w B o.obj) : w.cell? ⟨B, 0, none⟩ = some (.bool o.stands) ∧ w.cell? ⟨B, 1, none⟩ = some (.int .i64 o.told) ∧ w.cell? ⟨B, 3, none⟩ = some (.int .u32 o.kn.k.e) ∧ w.cell? ⟨B, 4, none⟩ = some (.int .u32 o.kn.k.s) ∧ w.cell? ⟨B, 5, none⟩ = some (.int .i64 o.kn.k.m) :=
  ⟨h.cell 0, h.cell 1, h.cell 3, h.cell 4, h.cell 5⟩
set_option maxHeartbeats 1600000 in
theorem better_any (a b : OW) (w : World) : Calls Try.prog 61 #[.agg (owc a).toArray, .agg (owc b).toArray] w fun r w' => r = .returned (.bool (beB a b)) ∧ Below w.heap.size w w' := by
  have hA := fun (w : World) => box_row (t := 101) (cs := owc a) (info101s a) w
  have hB := fun (w : World) => box_row (t := 101) (cs := owc b) (info101s b) w
  obtain ⟨A, hAe⟩ : ∃ A, A = w.heap.size := ⟨_, rfl⟩
  obtain ⟨B, hBe⟩ : ∃ B, B = A + 1 := ⟨_, rfl⟩
  obtain ⟨W, hW⟩ : ∃ W, W = (w.alloc a.obj).alloc b.obj := ⟨_, rfl⟩
  have H : Kp (Blk W A a.obj ∧ Blk W B b.obj ∧ Below A w W) := ⟨by rw [hW]; exact ⟨(Blk.newAt _ hAe).old _, Blk.newAt _ (by rw [hBe, hAe]; simp), by rw [hAe]; exact more (more (Below.refl _ _) _) _⟩⟩
  have HE := Kp.mk (And.intro hAe hBe)
  have HW := Kp.mk hW
  have HD : Kp (beB a b = (a.stands && (!b.stands || decide (0 < cmpK a.kn.k b.kn.k)))) := ⟨rfl⟩
  clear hW hAe hBe
  go_enter Try.func61, Try.ntmps61
  go_upto_region 1 with (first
    | (refine wpList_box_eq rfl 101 (.tmp 0) rfl _ rfl _ _ (hA _) ?_)
    | (refine wpList_box_eq rfl 101 (.tmp 1) rfl _ rfl _ _ (hB _) ?_))
  rw [← HW.out, ← HE.out.1, ← HE.out.2]
  clear hA hB
  obtain ⟨a0, a1, a3, a4, a5⟩ := owc_at H.out.1
  obtain ⟨b0, b1, b3, b4, b5⟩ := owc_at H.out.2.1
  cases ha : a.stands with
  | false =>
    have HV : Kp (beB a b = false) := ⟨by rw [HD.out, ha]; rfl⟩
    rw [ha] at a0
    clear ha
    go_wp2_with fail
    go_ret
    exact ⟨retb HV.out.symm, by rw [← HE.out.1]; exact H.out.2.2⟩
  | true =>
    rw [ha] at a0
    cases hb : b.stands with
    | false =>
      have HV : Kp (beB a b = true) := ⟨by rw [HD.out, ha, hb]; rfl⟩
      rw [hb] at b0
      clear ha hb
      go_wp2_with fail
      go_ret
      exact ⟨retb HV.out.symm, by rw [← HE.out.1]; exact H.out.2.2⟩
    | true =>
      have HV : Kp (beB a b = decide (0 < cmpK a.kn.k b.kn.k)) := ⟨by rw [HD.out, ha, hb]; rfl⟩
      rw [hb] at b0
      clear ha hb
      go_wp2_with fail
      refine (compare_any a.kn.k b.kn.k _).mono ?_
      rintro r w1 ⟨rfl, hb⟩
      have K1 := Kp.mk (H.out.2.2.trans (hb.mono (Nat.le_of_lt H.out.1.lt)))
      clear hb
      go_wp2_with fail
      go_ret
      exact ⟨retb HV.out.symm, by rw [← HE.out.1]; exact K1.out⟩
def turnedV (o : OW) (k : K3) : Int := if o.stands = false then 5 else if nwB k o.kn.k = true then 4 else 3
set_option maxHeartbeats 1600000 in
theorem turned_any (o : OW) (k : K3) (w : World) : Calls Try.prog 46 #[.agg (owc o).toArray, keyV k] w fun r w' => r = .returned (.int .i64 (turnedV o k)) ∧ Below w.heap.size w w' := by
  have hA := fun (w : World) => box_row (t := 101) (cs := owc o) (info101s o) w
  obtain ⟨A, hAe⟩ : ∃ A, A = w.heap.size := ⟨_, rfl⟩
  obtain ⟨B, hBe⟩ : ∃ B, B = A + 1 := ⟨_, rfl⟩
  obtain ⟨W, hW⟩ : ∃ W, W = (w.alloc o.obj).alloc (.cells (kc k).toArray 47) := ⟨_, rfl⟩
  have H : Kp (Blk W A o.obj ∧ Blk W B (.cells (kc k).toArray 47) ∧ Below A w W) := ⟨by rw [hW]; exact ⟨(Blk.newAt _ hAe).old _, Blk.newAt _ (by rw [hBe, hAe]; simp), by rw [hAe]; exact more (more (Below.refl _ _) _) _⟩⟩
  have HE := Kp.mk (And.intro hAe hBe)
  have HW := Kp.mk hW
  have HD : Kp (turnedV o k = if o.stands = false then 5 else if nwB k o.kn.k = true then 4 else 3) := ⟨rfl⟩
  clear hW hAe hBe
  go_enter Try.func46, Try.ntmps46
  go_upto_region 1 with (refine wpList_box_eq rfl 101 (.tmp 0) rfl _ rfl _ _ (hA _) ?_)
  rw [← HW.out, ← HE.out.1, ← HE.out.2]
  clear hA
  obtain ⟨a0, a1, a3, a4, a5⟩ := owc_at H.out.1
  have b0 : W.cell? ⟨B, 0, none⟩ = some (.int .u32 k.e) := H.out.2.1.cell 0
  have b1 : W.cell? ⟨B, 1, none⟩ = some (.int .u32 k.s) := H.out.2.1.cell 1
  have b2 : W.cell? ⟨B, 2, none⟩ = some (.int .i64 k.m) := H.out.2.1.cell 2
  cases ha : o.stands with
  | false =>
    have HV : Kp (turnedV o k = 5) := ⟨by rw [HD.out, if_pos ha]⟩
    rw [ha] at a0
    clear ha
    go_wp2_with fail
    go_ret
    exact ⟨reti HV.out.symm, by rw [← HE.out.1]; exact H.out.2.2⟩
  | true =>
    rw [ha] at a0
    have HR := fun w1 => newer_any k o.kn.k w1
    cases hn : nwB k o.kn.k with
    | false =>
      have HV : Kp (turnedV o k = 3) := ⟨by rw [HD.out, if_neg (by simp [ha]), if_neg (by simp [hn])]⟩
      rw [hn] at HR
      clear ha hn
      go_wp2_with fail
      refine (HR _).mono ?_
      rintro r w1 ⟨rfl, hb⟩
      have K1 := Kp.mk (H.out.2.2.trans (hb.mono (Nat.le_of_lt H.out.1.lt)))
      clear hb
      go_wp2_with fail
      go_ret
      exact ⟨reti HV.out.symm, by rw [← HE.out.1]; exact K1.out⟩
    | true =>
      have HV : Kp (turnedV o k = 4) := ⟨by rw [HD.out, if_neg (by simp [ha]), if_pos hn]⟩
      rw [hn] at HR
      clear ha hn
      go_wp2_with fail
      refine (HR _).mono ?_
      rintro r w1 ⟨rfl, hb⟩
      have K1 := Kp.mk (H.out.2.2.trans (hb.mono (Nat.le_of_lt H.out.1.lt)))
      clear hb
      go_wp2_with fail
      go_ret
      exact ⟨reti HV.out.symm, by rw [← HE.out.1]; exact K1.out⟩
theorem lookup_nil (d : Int) (w : World) : Calls Try.prog 25 #[.pointer none, .int .i64 d] w fun r w' => r = .returned (.tuple #[.int .i64 0, .bool false]) ∧ w = w' := by
  go_enter Try.func25, Try.ntmps25
  go_wp2_with fail
  go_ret2
  exact ⟨rfl, rfl⟩
end Go.Proofs.Ytfpmmbbbndobiaa
