/-
  The contracts of the document's In's Sums, whole, and Blob.
-/
import Derived.Test.YtlgcpfeaecpocaaRefD
namespace Go.Proofs.Ytlgcpfeaecpocaa
open Go.RowKit

def cnt2 (B : List Int) (at' : Nat) (e : Int) : Nat := (numOf (rawP B at' e 2)).toNat
def rblobF (B : List Int) (at' : Nat) (e most : Int) : Int := if rawE B at' e 2 = 0 ∧ (over most (cnt2 B at' e) = true ∨ 4096 < cnt2 B at' e) then 8 else rawE B at' e 2
def rblobP (B : List Int) (at' : Nat) (e most : Int) : List Int := rawP B (rawA B at' e 2) (rblobF B at' e most) (cnt2 B at' e)
def rblobA (B : List Int) (at' : Nat) (e most : Int) : Nat := rawA B (rawA B at' e 2) (rblobF B at' e most) (cnt2 B at' e)
def rblobE (B : List Int) (at' : Nat) (e most : Int) : Int := rawE B (rawA B at' e 2) (rblobF B at' e most) (cnt2 B at' e)
theorem cnt2_is {B : List Int} (hb : Bytes B) (at' : Nat) (e : Int) : numOf (rawP B at' e 2) = (cnt2 B at' e : Nat) ∧ cnt2 B at' e ≤ 65535 := by
  have h := numOf_two (l := rawP B at' e 2) (rawP_len B at' e 2) (rawP_bytes hb at' e 2)
  unfold cnt2
  omega

def RBlobPost (M R : Nat) (B : List Int) (at' : Nat) (e most : Int) (w : World) (r : Ending) (w' : World) : Prop :=
  ∃ v, r = .returned v ∧ (Bytes (rblobP B at' e most) ∧ w'.ownsRow w.heap.size 5 1 v (rblobP B at' e most).length (bv (rblobP B at' e most))) ∧ RefStep M R B (rblobA B at' e most) (rblobE B at' e most) w w'

set_option maxHeartbeats 3200000 in
theorem rblob_any (M R : Nat) (B : List Int) (at' : Nat) (e most : Int) (w : World) (h : RefIs w M R B at' e) (hm0 : -9223372036854775808 ≤ most) (hm1 : most ≤ 9223372036854775807) :
    Calls Try.prog 38 #[.pointer (some ⟨R, 0, none⟩), .int .i64 most] w (RBlobPost M R B at' e most w) := by
  obtain ⟨hc1, hc2⟩ := cnt2_is h.bytes at' e
  have HH := Lib.hid h
  have HBY := Lib.hid h.bytes
  have HN := Lib.hid (num_any M R B at' e 2 _ h (by omega))
  have HPO : Hid (∀ w1 w2 v, RefStep M R B (rawA B at' e 2) (rblobF B at' e most) w w1 → w2.ownsRow w1.heap.size 5 1 v (rawP B (rawA B at' e 2) (rblobF B at' e most) (cnt2 B at' e)).length (bv (rawP B (rawA B at' e 2) (rblobF B at' e most) (cnt2 B at' e))) →
      RefStep M R B (rawA B (rawA B at' e 2) (rblobF B at' e most) (cnt2 B at' e)) (rawE B (rawA B at' e 2) (rblobF B at' e most) (cnt2 B at' e)) w1 w2 → RBlobPost M R B at' e most w (.returned v) w2) := by
    intro w1 w2 v h1 h2 h3
    exact ⟨v, rfl, ⟨rawP_bytes HBY.out _ _ _, ownsRow_base h2 h1.size⟩, h1.trans h3⟩
  have HF : Hid (rblobF B at' e most = if rawE B at' e 2 = 0 ∧ (over most (cnt2 B at' e) = true ∨ 4096 < cnt2 B at' e) then 8 else rawE B at' e 2) := rfl
  have HO : Hid (over most (cnt2 B at' e) = decide ((if most < 0 then 0 else most) < ((cnt2 B at' e : Nat) : Int))) := rfl
  rw [hc1] at HN
  generalize over most (cnt2 B at' e) = ov at HO HF
  generalize rblobF B at' e most = f at HPO HF
  generalize cnt2 B at' e = n at hc2 HPO HF HO HN
  generalize rawA B at' e 2 = a2 at HPO HN
  generalize rawE B at' e 2 = e2 at HPO HN HF
  clear hc1 h
  have hcase : (e2 ≠ 0 ∧ f = e2) ∨ (e2 = 0 ∧ (if most < 0 then 0 else most) < (n : Int) ∧ f = 8) ∨ (e2 = 0 ∧ ¬ (if most < 0 then 0 else most) < (n : Int) ∧ 4096 < n ∧ f = 8) ∨ (e2 = 0 ∧ ¬ (if most < 0 then 0 else most) < (n : Int) ∧ n ≤ 4096 ∧ f = 0) := by
    have hf := HF.out
    have ho := HO.out
    by_cases h0 : e2 = 0
    · by_cases h1 : (if most < 0 then 0 else most) < (n : Int)
      · rw [decide_eq_true h1] at ho
        rw [if_pos ⟨h0, .inl ho⟩] at hf
        exact .inr (.inl ⟨h0, h1, hf⟩)
      · rw [decide_eq_false h1] at ho
        by_cases h2 : 4096 < n
        · rw [if_pos ⟨h0, .inr h2⟩] at hf
          exact .inr (.inr (.inl ⟨h0, h1, h2, hf⟩))
        · rw [if_neg (by simp [ho, h2])] at hf
          exact .inr (.inr (.inr ⟨h0, h1, by omega, by omega⟩))
    · rw [if_neg (by simp [h0])] at hf
      exact .inl ⟨h0, hf⟩
  clear HF HO
  rcases hcase with ⟨h0, rfl⟩ | ⟨rfl, h1, rfl⟩ | ⟨rfl, h1, h2, rfl⟩ | ⟨rfl, h1, h2, rfl⟩
  · have t0 : (f == 0) = false := by simp [h0]
    clear h0
    by_cases hmn : most < 0
    all_goals
      go_enter Try.func38, Try.ntmps38
      go_wp2_with fail
      refine HN.out.mono ?_
      rintro r w1 ⟨rfl, h1⟩
      have H1 := Lib.hid h1
      obtain ⟨⟨_, ⟨v, hv, hB⟩, _⟩, _⟩ := h1
      obtain ⟨c0, c1, c2, -⟩ := hB.three
      clear hB hv
      go_wp2_with fail
      refine (raw_any M R B a2 f n _ H1.out.is (by omega)).mono ?_
      rintro r w2 ⟨v, rfl, hv2, h2⟩
      have HV2 := Lib.hid hv2
      have H2 := Lib.hid h2
      clear hv2 h2
      go_wp2_with fail
      go_ret
      exact HPO.out _ _ _ H1.out HV2.out H2.out
  · by_cases hmn : most < 0
    all_goals
      first | (rw [if_pos hmn] at h1) | (rw [if_neg hmn] at h1)
      go_enter Try.func38, Try.ntmps38
      go_wp2_with fail
      refine HN.out.mono ?_
      rintro r w1 ⟨rfl, hh1⟩
      have H1 := Lib.hid hh1
      obtain ⟨⟨_, ⟨v, hv, hB⟩, _⟩, _⟩ := hh1
      obtain ⟨c0, c1, c2, f0, f1, f2⟩ := hB.three
      have lR := hB.lt
      have H3 := Lib.hid (H1.out.trans (H1.out.is.fail 8))
      clear hB hv
      go_wp2_with fail
      refine (raw_any M R B a2 8 _ _ H3.out.is (by omega)).mono ?_
      rintro r w2 ⟨v, rfl, hv2, h2⟩
      have HV2 := Lib.hid hv2
      have H2 := Lib.hid h2
      clear hv2 h2
      go_wp2_with fail
      go_ret
      exact HPO.out _ _ _ H3.out HV2.out H2.out
  · by_cases hmn : most < 0
    · rw [if_pos hmn] at h1
      omega
    · rw [if_neg hmn] at h1
      have h1' : (n : Int) ≤ most := by omega
      clear h1
      go_enter Try.func38, Try.ntmps38
      go_wp2_with fail
      refine HN.out.mono ?_
      rintro r w1 ⟨rfl, hh1⟩
      have H1 := Lib.hid hh1
      obtain ⟨⟨_, ⟨v, hv, hB⟩, _⟩, _⟩ := hh1
      obtain ⟨c0, c1, c2, f0, f1, f2⟩ := hB.three
      have lR := hB.lt
      have H3 := Lib.hid (H1.out.trans (H1.out.is.fail 8))
      clear hB hv
      go_wp2_with fail
      refine (raw_any M R B a2 8 _ _ H3.out.is (by omega)).mono ?_
      rintro r w2 ⟨v, rfl, hv2, h2⟩
      have HV2 := Lib.hid hv2
      have H2 := Lib.hid h2
      clear hv2 h2
      go_wp2_with fail
      go_ret
      exact HPO.out _ _ _ H3.out HV2.out H2.out
  · by_cases hmn : most < 0
    · rw [if_pos hmn] at h1
      obtain rfl : n = 0 := by omega
      clear h1 h2
      go_enter Try.func38, Try.ntmps38
      go_wp2_with fail
      refine HN.out.mono ?_
      rintro r w1 ⟨rfl, hh1⟩
      have H1 := Lib.hid hh1
      obtain ⟨⟨_, ⟨v, hv, hB⟩, _⟩, _⟩ := hh1
      obtain ⟨c0, c1, c2, -⟩ := hB.three
      clear hB hv
      go_wp2_with fail
      refine (raw_any M R B a2 0 _ _ H1.out.is (by omega)).mono ?_
      rintro r w2 ⟨v, rfl, hv2, h2⟩
      have HV2 := Lib.hid hv2
      have H2 := Lib.hid h2
      clear hv2 h2
      go_wp2_with fail
      go_ret
      exact HPO.out _ _ _ H1.out HV2.out H2.out
    · rw [if_neg hmn] at h1
      have h1' : (n : Int) ≤ most := by omega
      clear h1
      go_enter Try.func38, Try.ntmps38
      go_wp2_with fail
      refine HN.out.mono ?_
      rintro r w1 ⟨rfl, hh1⟩
      have H1 := Lib.hid hh1
      obtain ⟨⟨_, ⟨v, hv, hB⟩, _⟩, _⟩ := hh1
      obtain ⟨c0, c1, c2, -⟩ := hB.three
      clear hB hv
      go_wp2_with fail
      refine (raw_any M R B a2 0 _ _ H1.out.is (by omega)).mono ?_
      rintro r w2 ⟨v, rfl, hv2, h2⟩
      have HV2 := Lib.hid hv2
      have H2 := Lib.hid h2
      clear hv2 h2
      go_wp2_with fail
      go_ret
      exact HPO.out _ _ _ H1.out HV2.out H2.out
end Go.Proofs.Ytlgcpfeaecpocaa
