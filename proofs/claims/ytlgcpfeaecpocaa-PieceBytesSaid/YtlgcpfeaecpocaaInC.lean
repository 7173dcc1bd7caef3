/-
  The contracts of In's counts, short sums and blobs, and of its beginning and end.
-/
import Derived.Test.YtlgcpfeaecpocaaInB
import Derived.Test.YtlgcpfeaecpocaaClone
import Derived.Laws.CopyOwn
import Derived.RegionTactic
import Derived.BigRegion
import Derived.Deep.RegionWith
namespace Go.Proofs.Ytlgcpfeaecpocaa
open Go.RowKit

theorem nextP_len (l : List Int) (e : Int) (k : Nat) : (nextP l e k).length ≤ k := by unfold nextP; split <;> simp <;> omega
theorem nextP_bytes {l : List Int} (h : Bytes l) (e : Int) (k : Nat) : Bytes (nextP l e k) := by
  unfold nextP
  split
  · exact h.take k
  · exact Bytes.nil
theorem InIs.bytes {w : World} {M I : Nat} {l : List Int} {e : Int} (h : InIs w M I l e) : Bytes l := by
  obtain ⟨_, ⟨v, hv, _⟩, _⟩ := h
  exact hv.bytes

/-- What many answers, and what it makes of the bytes and the error. -/
def manyB (l : List Int) (e : Int) (k : Nat) (most : Int) : Bool := decide ((if most < 0 then 0 else most) < numOf (nextP l e k))
def manyR (l : List Int) (e : Int) (k : Nat) (most : Int) : Int := if manyB l e k most then 0 else numOf (nextP l e k)
def manyL (l : List Int) (e : Int) (k : Nat) (most : Int) : List Int := if manyB l e k most then failL (nextL l e k) (nextE l e k) 8 else nextL l e k
def manyE (l : List Int) (e : Int) (k : Nat) (most : Int) : Int := if manyB l e k most then failE (nextE l e k) 8 else nextE l e k

set_option maxHeartbeats 8000000 in
theorem many_any (M I : Nat) (l : List Int) (e : Int) (k : Nat) (most : Int) (w : World) (h : InIs w M I l e) (hk : k ≤ 2) (hm0 : -9223372036854775808 ≤ most) (hm1 : most ≤ 9223372036854775807) :
    Calls Try.prog 54 #[.pointer (some ⟨I, 0, none⟩), .int .i64 k, .int .i64 most] w fun r w' => r = .returned (.int .i64 (manyR l e k most)) ∧ InStep M I (manyL l e k most) (manyE l e k most) w w' := by
  have hn := numOf_two (l := nextP l e k) (by have := nextP_len l e k; omega) (nextP_bytes h.bytes e k)
  by_cases hb : manyB l e k most = true
  · have HR : Hid (manyR l e k most = 0) := by unfold Hid manyR; rw [if_pos hb]
    have HL : Hid (manyL l e k most = failL (nextL l e k) (nextE l e k) 8) := by unfold Hid manyL; rw [if_pos hb]
    have HE : Hid (manyE l e k most = failE (nextE l e k) 8) := by unfold Hid manyE; rw [if_pos hb]
    have hb' : (if most < 0 then 0 else most) < numOf (nextP l e k) := of_decide_eq_true hb
    obtain ⟨m, hm⟩ : ∃ m, numOf (nextP l e k) = m := ⟨_, rfl⟩
    rw [hm] at hb' hn
    have HM := Lib.hid hm
    clear hm hb
    by_cases hmn : most < 0
    all_goals
      first | (rw [if_pos hmn] at hb') | (rw [if_neg hmn] at hb')
      go_enter Try.func54, Try.ntmps54
      go_wp2_with fail
      refine (number_any M I l e k _ h (by omega)).mono ?_
      rintro r w1 ⟨rfl, h1⟩
      rw [HM.out]
      have H1 := Lib.hid h1
      clear h h1
      go_wp2_with fail
      refine (fail_any M I _ _ 8 _ H1.out.is).mono ?_
      rintro r w2 ⟨rfl, h2⟩
      have H2 := Lib.hid h2
      clear h2
      go_wp2_with fail
      go_ret
      exact ⟨reti HR.out.symm, by rw [HL.out, HE.out]; exact H1.out.trans H2.out⟩
  · have hb' : manyB l e k most = false := by simpa using hb
    have HL : Hid (manyL l e k most = nextL l e k) := by unfold Hid manyL; rw [if_neg hb]
    have HE : Hid (manyE l e k most = nextE l e k) := by unfold Hid manyE; rw [if_neg hb]
    have hb2 : ¬ (if most < 0 then 0 else most) < numOf (nextP l e k) := of_decide_eq_false hb'
    obtain ⟨m, hm⟩ : ∃ m, numOf (nextP l e k) = m := ⟨_, rfl⟩
    have HR : Hid (manyR l e k most = m) := by unfold Hid manyR; rw [if_neg hb, hm]
    rw [hm] at hb2 hn
    have HM := Lib.hid hm
    clear hm hb hb'
    by_cases hmn : most < 0
    all_goals
      first | (rw [if_pos hmn] at hb2) | (rw [if_neg hmn] at hb2)
      go_enter Try.func54, Try.ntmps54
      go_wp2_with fail
      refine (number_any M I l e k _ h (by omega)).mono ?_
      rintro r w1 ⟨rfl, h1⟩
      rw [HM.out]
      have H1 := Lib.hid h1
      clear h h1
      go_wp2_with fail
      go_ret
      exact ⟨reti HR.out.symm, by rw [HL.out, HE.out]; exact H1.out⟩

/-- A number of things to take. -/
theorem manyR_range {l : List Int} {e : Int} {k : Nat} {most : Int} (h : Bytes l) (hk : k ≤ 2) : 0 ≤ manyR l e k most ∧ manyR l e k most ≤ 65535 := by
  have hn := numOf_two (l := nextP l e k) (by have := nextP_len l e k; omega) (nextP_bytes h e k)
  unfold manyR
  split <;> omega
theorem InStep.bytes {w w' : World} {M I : Nat} {l : List Int} {e : Int} (h : InStep M I l e w w') : Bytes l := h.is.bytes

/-- What Blob answers. -/
def blobN (l : List Int) (e : Int) (most : Int) : Nat := (manyR l e 2 (if 4096 < most then 4096 else most)).toNat
def blobP (l : List Int) (e : Int) (most : Int) : List Int := nextP (manyL l e 2 (if 4096 < most then 4096 else most)) (manyE l e 2 (if 4096 < most then 4096 else most)) (blobN l e most)
def blobL (l : List Int) (e : Int) (most : Int) : List Int := nextL (manyL l e 2 (if 4096 < most then 4096 else most)) (manyE l e 2 (if 4096 < most then 4096 else most)) (blobN l e most)
def blobE (l : List Int) (e : Int) (most : Int) : Int := nextE (manyL l e 2 (if 4096 < most then 4096 else most)) (manyE l e 2 (if 4096 < most then 4096 else most)) (blobN l e most)

set_option maxHeartbeats 8000000 in
theorem blob_any (M I : Nat) (l : List Int) (e : Int) (most : Int) (w : World) (h : InIs w M I l e) (hm0 : -9223372036854775808 ≤ most) (hm1 : most ≤ 9223372036854775807) :
    Calls Try.prog 35 #[.pointer (some ⟨I, 0, none⟩), .int .i64 most] w fun r w' => ∃ v, r = .returned v ∧ (Bytes (blobP l e most) ∧ w'.ownsRow w.heap.size 5 1 v (blobP l e most).length (bv (blobP l e most))) ∧ InStep M I (blobL l e most) (blobE l e most) w w' := by
  have HH := Lib.hid h
  clear h
  obtain ⟨m, hm⟩ : ∃ m : Int, (if 4096 < most then 4096 else most) = m := ⟨_, rfl⟩
  have hmm : -9223372036854775808 ≤ m ∧ m ≤ 9223372036854775807 := by rw [← hm]; split <;> omega
  have HB : Hid (∀ w' v, (Bytes (nextP (manyL l e 2 m) (manyE l e 2 m) (manyR l e 2 m).toNat) ∧ w'.ownsRow w.heap.size 5 1 v (nextP (manyL l e 2 m) (manyE l e 2 m) (manyR l e 2 m).toNat).length (bv (nextP (manyL l e 2 m) (manyE l e 2 m) (manyR l e 2 m).toNat))) → InStep M I (nextL (manyL l e 2 m) (manyE l e 2 m) (manyR l e 2 m).toNat) (nextE (manyL l e 2 m) (manyE l e 2 m) (manyR l e 2 m).toNat) w w' →
      (Bytes (blobP l e most) ∧ w'.ownsRow w.heap.size 5 1 v (blobP l e most).length (bv (blobP l e most))) ∧ InStep M I (blobL l e most) (blobE l e most) w w') := by
    intro w' v h1 h2
    unfold blobP blobL blobE blobN
    rw [hm]
    exact ⟨h1, h2⟩
  have HR := Lib.hid (manyR_range (e := e) (most := m) HH.out.bytes (Nat.le_refl 2))
  have HC : Hid (Calls Try.prog 54 #[.pointer (some ⟨I, 0, none⟩), .int .i64 2, .int .i64 m] w fun r w' => r = .returned (.int .i64 (manyR l e 2 m)) ∧ InStep M I (manyL l e 2 m) (manyE l e 2 m) w w') :=
    many_any M I l e 2 m _ HH.out (by omega) hmm.1 hmm.2
  revert HB HR HC
  generalize manyL l e 2 m = lm
  generalize manyE l e 2 m = em
  generalize manyR l e 2 m = rm
  intro HB HR HC
  obtain ⟨k, rfl⟩ : ∃ k : Nat, rm = k := ⟨rm.toNat, by have := HR.out; omega⟩
  have hk : k ≤ 65535 := by have := HR.out; omega
  by_cases hlt : 4096 < most
  all_goals
    first | (rw [if_pos hlt] at hm) | (rw [if_neg hlt] at hm)
    subst hm
    first | (have hmin : min most 4096 = 4096 := by omega) | (have hmin : min most 4096 = most := by omega)
    go_enter Try.func35, Try.ntmps35
    go_wp2_with fail
    refine HC.out.mono ?_
    rintro r w1 ⟨rfl, h1⟩
    have H1 := Lib.hid h1
    clear h1
    go_wp2_with fail
    refine (next_any M I lm em k _ H1.out.is (by omega)).mono ?_
    rintro r w2 ⟨v, rfl, hv, h2⟩
    have H2 := Lib.hid h2
    have HV := Lib.hid hv
    clear h2 hv
    go_wp2_with fail
    refine (clone_anyF M v _ _ HV.out (by have := nextP_len lm em k; omega)).mono ?_
    rintro r w3 ⟨v3, rfl, hv3, hb3⟩
    have HV3 := Lib.hid hv3
    have HB3 := Lib.hid hb3
    clear hv3 hb3
    go_wp2_with fail
    go_ret
    exact ⟨_, rfl, HB.out _ _ ⟨HV.out.bytes, ownsRow_base HV3.out (Nat.le_trans H1.out.size H2.out.size)⟩ ((H1.out.trans H2.out).more HB3.out)⟩
end Go.Proofs.Ytlgcpfeaecpocaa
