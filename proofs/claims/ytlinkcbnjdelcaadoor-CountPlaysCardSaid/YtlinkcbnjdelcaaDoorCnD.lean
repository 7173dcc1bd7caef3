/-
  The document's example; CountNames.
-/
import Derived.Test.YtlinkcbnjdelcaaDoorCnC
namespace Go.Proofs.YtlinkcbnjdelcaaDoor
open Go.RowKit

def fA : Nat → Int := addF (addF f0 4 1) 0 2
def txA : ByteArray := ⟨#[102, 114, 97, 109, 101, 115, 61, 50, 32, 116, 97, 103, 115, 61, 49]⟩
theorem fA_at (i : Nat) : fA i = if i = 0 then 2 else if i = 4 then 1 else 0 := by
  unfold fA addF upd f0 okB
  simp [wrap64]
theorem fA_ok : I64s fA := fun i => by rw [fA_at]; split <;> (try split) <;> omega
theorem dd1 : Lib.itoa 1 = [49] := by simp [Lib.itoa, Lib.decDigits]; try decide
theorem dd2 : Lib.itoa 2 = [50] := by simp [Lib.itoa, Lib.decDigits]; try decide
theorem text_fA : textA fA = txA := by
  have h : itemsA fA 19 = [partA fA 0, partA fA 4] := by
    unfold itemsA
    have : (List.range 19).filter (fun i => fA i != 0) = [0, 4] := by simp only [fA_at]; decide
    rw [this]; rfl
  unfold textA
  rw [h]
  have p0 : partA fA 0 = ⟨#[102, 114, 97, 109, 101, 115, 61, 50]⟩ := by unfold partA; rw [fA_at, if_pos rfl, dd2]; decide
  have p4 : partA fA 4 = ⟨#[116, 97, 103, 115, 61, 49]⟩ := by unfold partA; rw [fA_at, if_neg (by decide), if_pos rfl, dd1]; decide
  rw [p0, p4]
  decide
set_option maxHeartbeats 1600000 in
theorem awake_any (w : World) (hk : Kon w) : Calls Tryd.prog 12 #[] w fun r w' => r = .returned (.bool true) ∧ Below w.heap.size w w' := by
  have HK := Kp.mk hk
  clear hk
  obtain ⟨b, hb⟩ : ∃ b, b = w.heap.size := ⟨_, rfl⟩
  have HBE := Kp.mk hb
  clear hb
  go_enter Tryd.func12, Tryd.ntmps12
  go_wp2_with fail
  refine (new_any _).mono ?_
  rintro r w1 ⟨rfl, hw⟩
  rw [← HBE.out]
  have K1 : Kp (Blk w1 b (cObj f0) ∧ Below w.heap.size w w1) := ⟨by rw [hw]; exact Blk.newAt _ HBE.out, by rw [hw]; exact more (Below.refl _ _) _⟩
  clear hw
  have HA := bump_any f0 b 4 w1 K1.out.1
  go_wp2_with fail
  refine HA.mono ?_
  rintro r w2 ⟨rfl, hT⟩
  have K2 : Kp (Blk w2 b (cObj (addF f0 4 1)) ∧ Below w.heap.size w w2) := ⟨hT.blk, K1.out.2.trans (hT.below (by rw [HBE.out]; exact Nat.le_refl _) K1.out.2.size)⟩
  clear hT HA K1
  have HA := add_any (addF f0 4 1) b 0 2 w2 K2.out.1
  go_wp2_with fail
  refine HA.mono ?_
  rintro r w3 ⟨rfl, hT⟩
  have K3 : Kp (Blk w3 b (cObj fA) ∧ Below w.heap.size w w3) := ⟨hT.blk, K2.out.2.trans (hT.below (by rw [HBE.out]; exact Nat.le_refl _) K2.out.2.size)⟩
  clear hT HA K2
  have HT := text_any fA fA_ok b w3 K3.out.1 (HK.out.keep K3.out.2)
  rw [text_fA] at HT
  obtain ⟨X, hX⟩ : ∃ X, X = txA := ⟨_, rfl⟩
  have hq : (X.toList == [102, 114, 97, 109, 101, 115, 61, 50, 32, 116, 97, 103, 115, 61, 49]) = true := by rw [hX]; unfold txA; simp [ByteArray.toList_eq]
  rw [← hX] at HT
  clear hX
  go_wp2_with fail
  refine HT.mono ?_
  rintro r w4 ⟨rfl, hb⟩
  have K4 := Kp.mk (K3.out.2.trans (hb.mono K3.out.2.size))
  clear hb HT K3
  have HO := fun wx => of_any 24 wx
  rw [show ofE 24 = 4 by decide] at HO
  go_wp2_with fail
  refine (HO _).mono ?_
  rintro r w5 ⟨rfl, rfl⟩
  go_wp2_with fail
  go_ret
  exact ⟨rfl, K4.out⟩
theorem which_name : ∀ k, k < 19 → whR (nmA k) 19 0 = k ∧ (nmA k).toList.isEmpty = false := by
  have : ∀ k : Fin 19, whR (nmA k) 19 0 = (k : Nat) ∧ (nmA k).toList.isEmpty = false := by decide +kernel
  exact fun k hk => this ⟨k, hk⟩
set_option maxHeartbeats 3200000 in
theorem countNames_walk (d : Int) (x : ByteArray) (e : Int) (w : World) (_ : (Lit.int .i64 d).wf = true) (_ : x.size ≤ maxLen) (_ : (Lit.int .i64 e).wf = true) (hk : Kon w) :
    Calls Tryd.prog 4 #[.int .i64 d, .string x, .int .i64 e] w fun r w' => r = .returned (.bool true) ∧ Below w.heap.size w w' := by
  have HK := Kp.mk hk
  clear hk
  obtain ⟨v, hv⟩ : ∃ v, v = whR x 19 0 := ⟨_, rfl⟩
  obtain ⟨y, hy⟩ : ∃ y, y = nameS d := ⟨_, rfl⟩
  obtain ⟨z, hz⟩ : ∃ z, z = ofE e := ⟨_, rfl⟩
  have HW := fun wx hx => which_any x wx hx
  have HRW := fun wx => rwhich_any x wx
  have HN := fun wx hx => name_any d wx hx
  have HRN := fun wx => rname_any d wx
  have HO := fun wx => of_any e wx
  have HRO := fun wx => rof_any e wx
  rw [← hv] at HW HRW
  rw [← hy] at HN HRN
  rw [← hz] at HO HRO
  have hyy : (y.toList == y.toList) = true := by simp
  have HWN : Kp (y.toList.isEmpty = true ∨ y.toList.isEmpty = false ∧ whR y 19 0 = d) := ⟨by
    rw [hy]
    cases ho : okB d with
    | false => refine .inl ?_; unfold nameS; rw [ho]; simp [ByteArray.toList_eq]
    | true =>
      obtain ⟨k, rfl, hk⟩ : ∃ k : Nat, d = k ∧ k < 19 := ⟨d.toNat, by simp [okB] at ho; omega⟩
      rw [name_ok hk]
      exact .inr ⟨(which_name k hk).2, (which_name k hk).1⟩⟩
  clear hv hy hz
  go_enter Tryd.func4, Tryd.ntmps4
  go_wp2_with fail
  refine (awake_any _ HK.out).mono ?_
  rintro r w1 ⟨rfl, hb⟩
  have K1 := Kp.mk hb
  clear hb
  go_wp2_with fail
  refine (HN _ (HK.out.keep K1.out)).mono ?_
  rintro r w2 ⟨rfl, rfl⟩
  go_wp2_with fail
  refine (HRN _).mono ?_
  rintro r w3 ⟨rfl, hb⟩
  have K3 := Kp.mk (K1.out.trans (hb.mono K1.out.size))
  clear hb K1
  go_wp2_with fail
  refine (HW _ (HK.out.keep K3.out)).mono ?_
  rintro r w4 ⟨rfl, rfl⟩
  go_wp2_with fail
  refine (HRW _).mono ?_
  rintro r w5 ⟨rfl, hb⟩
  have K5 := Kp.mk (K3.out.trans (hb.mono K3.out.size))
  clear hb K3
  go_wp2_with fail
  refine (HO _).mono ?_
  rintro r w6 ⟨rfl, rfl⟩
  go_wp2_with fail
  refine (HRO _).mono ?_
  rintro r w7 ⟨rfl, rfl⟩
  go_wp2_with fail
  refine (HRN _).mono ?_
  rintro r w8 ⟨rfl, hb⟩
  have K8 := Kp.mk (K5.out.trans (hb.mono K5.out.size))
  clear hb K5
  rcases HWN.out with hq | ⟨hq, hw⟩
  · go_wp2_with fail
    go_ret
    exact ⟨rfl, K8.out⟩
  · have HWY := fun wx hx => which_any y wx hx
    rw [hw] at HWY
    clear hw
    go_wp2_with fail
    refine (HN _ (HK.out.keep K8.out)).mono ?_
    rintro r w9 ⟨rfl, rfl⟩
    go_wp2_with fail
    refine (HWY _ (HK.out.keep K8.out)).mono ?_
    rintro r w10 ⟨rfl, rfl⟩
    go_wp2_with fail
    go_ret
    exact ⟨rfl, K8.out⟩
end Go.Proofs.YtlinkcbnjdelcaaDoor
