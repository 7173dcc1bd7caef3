/-
  What was taken of an update stands in memory as one.
-/
import Derived.Test.YtgabjmmmiogfjaaDoorFuU
namespace Go.Proofs.YtgabjmmmiogfjaaDoor
open Go.RowKit

/-- The entries of a list, by their places. -/
def nthE (xs : List E3) (i : Nat) : E3 := (xs[i]?).getD (x0, [], [])
theorem nthE_at {xs : List E3} {i : Nat} {z : E3} (h : xs[i]? = some z) : nthE xs i = z := by unfold nthE; rw [h]; rfl
theorem nW_few (B : List Int) (s : Nat × Int) : (nW B s).length ≤ 3 * 16 := by
  unfold nW
  by_cases h : rsumsE B (gs5 B s).1 (gs5 B s).2 3 = 0
  · exact rsums_few (most := 3) h
  · unfold rsumsP
    rw [if_neg h]
    simp
theorem nP_few (B : List Int) (s : Nat × Int) : (nP B s).length ≤ 6 * 16 := by
  unfold nP
  by_cases h : rsumsE B (gs6 B s).1 (gs6 B s).2 6 = 0
  · exact rsums_few (most := 6) h
  · unfold rsumsP
    rw [if_neg h]
    simp
theorem UGood.fit {B : List Int} {n : Nat} {xs : List E3} (hb : Bytes B) (h : UGood B n xs) (hw : ∀ z ∈ xs, z.2.1.length = z.1.wn * 16 ∧ z.2.2.length = z.1.pn * 16) :
    ∀ z ∈ xs, (0 ≤ z.1.e ∧ z.1.e ≤ 4294967295) ∧ (0 ≤ z.1.s ∧ z.1.s ≤ 4294967295) ∧ z.1.wn ≤ 20 ∧ z.1.pn ≤ 20 := fun z hz => by
  obtain ⟨j, hj⟩ := List.getElem?_of_mem hz
  obtain ⟨⟨h1, h2, h3, h4, h5⟩, h6, h7⟩ := h.2 j z hj
  have w1 := (hw z hz).1
  have w2 := (hw z hz).2
  have f1 := nW_few B (uT B j).1
  have f2 := nP_few B (uT B j).1
  rw [← h6] at f1
  rw [← h7] at f2
  have k4 := num4 (rawP_len B (gs1 B (uT B j).1).1 (gs1 B (uT B j).1).2 4) (rawP_bytes hb _ _ _)
  have k1 := num1 hb (gs2 B (uT B j).1).1 (gs2 B (uT B j).1).2
  have e2 : z.1.e = numOf (rawP B (gs1 B (uT B j).1).1 (gs1 B (uT B j).1).2 4) := h2
  have e3 : z.1.s = numOf (rawP B (gs2 B (uT B j).1).1 (gs2 B (uT B j).1).2 1) := h3
  rw [← e2] at k4
  rw [← e3] at k1
  exact ⟨⟨k4.1, by omega⟩, ⟨k1.1, by omega⟩, by omega, by omega⟩
/-- What GetUpdate answers, as an update in memory. -/
theorem UGood.holds {B : List Int} {W : World} {te t base k : Nat} {a : Option Addr} {n c : Nat} {xs : List E3} (hb : Bytes B) (h : UGood B k xs) (hs : EOs W te t base (.slice a n c) xs) : HoldsE W W.heap.size a n (nthE xs) ∧ n = k := by
  have hn : n = xs.length := ownsRow_len hs.v
  exact ⟨hs.holds (nthE xs) (fun i z hz => nthE_at hz) (h.fit hb fun z hz => ⟨(hs.e z hz).wl, (hs.e z hz).pl⟩) hn, by rw [hn]; exact h.1⟩
theorem stp_stuck {B : List Int} {k : Nat} {s : Nat × Int} (h : s.2 ≠ 0) : (stp B k s).2 = s.2 := by
  unfold stp rawE
  simp [h]
theorem ssm_stuck {B : List Int} {m : Int} {s : Nat × Int} (h : s.2 ≠ 0) : (ssm B m s).2 = s.2 := rsumsE_bad h
theorem gs7_stuck {B : List Int} {s : Nat × Int} (h : s.2 ≠ 0) : (gs7 B s).2 = s.2 := by
  have h1 : (gs1 B s).2 = s.2 := stp_stuck h
  have h2 : (gs2 B s).2 = s.2 := (stp_stuck (by rw [h1]; exact h)).trans h1
  have h3 : (gs3 B s).2 = s.2 := (stp_stuck (by rw [h2]; exact h)).trans h2
  have h4 : (gs4 B s).2 = s.2 := (stp_stuck (by rw [h3]; exact h)).trans h3
  have h5 : (gs5 B s).2 = s.2 := (stp_stuck (by rw [h4]; exact h)).trans h4
  have h6 : (gs6 B s).2 = s.2 := (ssm_stuck (by rw [h5]; exact h)).trans h5
  exact (ssm_stuck (by rw [h6]; exact h)).trans h6
/-- An error stays. -/
theorem uT_stuck {B : List Int} {i : Nat} (h : (uT B i).1.2 ≠ 0) : ∀ k, (uT B (i + k)).1.2 = (uT B i).1.2
  | 0 => rfl
  | k + 1 => by
    have ih := uT_stuck h k
    have g : (gs7 B (uT B (i + k)).1).2 = (uT B i).1.2 := (gs7_stuck (by rw [ih]; exact h)).trans ih
    rw [← Nat.add_assoc, show (uT B (i + k + 1)).1.2 = (if uFol B (uT B (i + k)).2 (uT B (i + k)).1 = true then (gs7 B (uT B (i + k)).1).2 else failE (gs7 B (uT B (i + k)).1).2 10) from rfl, g]
    split
    · rfl
    · unfold failE
      rw [if_neg (fun e => h e.1)]
/-- Who stops at the first error ends as who goes on. -/
theorem uEnd_stop {B : List Int} {i : Nat} (hi : i ≤ uK B) (h : i = uK B ∨ (uT B i).1.2 ≠ 0) : (if 0 < rleft B (uT B i).1.1 (uT B i).1.2 then 10 else (uT B i).1.2) = uEnd B := by
  rcases h with rfl | h
  · rfl
  · have e := uT_stuck h (uK B - i)
    rw [show i + (uK B - i) = uK B by omega] at e
    unfold uEnd rleft
    rw [e, if_neg h, if_neg h]
end Go.Proofs.YtgabjmmmiogfjaaDoor
