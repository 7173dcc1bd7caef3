/-
  What is taken is what was laid: plain arithmetic.
-/
import Derived.Test.YtgabjmmmiogfjaaDoorFrS
namespace Go.Proofs.YtgabjmmmiogfjaaDoor
open Go.RowKit

theorem digs_succ (n : Int) (k : Nat) : digs n (k + 1) = digs (n / 256) k ++ [n % 256] := by
  unfold digs
  rw [List.range_succ, List.map_append]
  congr 1
  · apply List.map_congr_left
    intro i hi
    have hi' := List.mem_range.1 hi
    have e : k + 1 - 1 - i = (k - 1 - i) + 1 := by omega
    rw [e, Int.pow_succ, Int.mul_comm, ← Int.ediv_ediv_of_nonneg (by omega)]
  · simp
theorem digs_numOf : ∀ (k : Nat) (l : List Int), Bytes l → l.length = k → k ≤ 8 → digs (numOf l) k = l ∧ 0 ≤ numOf l ∧ numOf l < 256 ^ k := by
  intro k
  induction k with
  | zero =>
    intro l _ hl _
    have : l = [] := List.length_eq_zero_iff.1 hl
    subst this
    exact ⟨rfl, by decide, by decide⟩
  | succ k ih =>
    intro l hb hl h8
    obtain ⟨h1, h2, h3⟩ := ih (l.take k) (hb.take k) (by rw [List.length_take]; omega) (by omega)
    have e : l.take (k + 1) = l := List.take_of_length_le (by omega)
    have hn := numOf_take (l := l) (i := k) (by omega)
    rw [e] at hn
    have hat := hb.at (i := k) (by omega)
    have hg := take_succ_get (l := l) (i := k) (by omega)
    rw [e] at hg
    generalize l.getD k 0 = b at *
    generalize hq : numOf (l.take k) = n at *
    have h5 : (256 : Int) ^ (k + 1) ≤ 256 ^ 8 := by
      have e : (256 : Int) ^ 8 = 256 ^ (k + 1) * 256 ^ (8 - (k + 1)) := by rw [← Int.pow_add]; congr 1; omega
      have h3 : (0 : Int) < 256 ^ (k + 1) := Int.pow_pos (by omega)
      have h4 : (1 : Int) ≤ 256 ^ (8 - (k + 1)) := Int.pow_pos (by omega)
      rw [e]
      have := Int.mul_le_mul_of_nonneg_left h4 (Int.le_of_lt h3)
      omega
    have h6 : (256 : Int) ^ 8 = 18446744073709551616 := by decide
    have h7 : n * 256 + b < 256 ^ (k + 1) := by rw [Int.pow_succ]; omega
    rw [Int.emod_eq_of_lt (by omega) (by omega)] at hn
    rw [hn]
    refine ⟨?_, by omega, h7⟩
    rw [digs_succ, show (n * 256 + b) / 256 = n by omega, show (n * 256 + b) % 256 = b by omega, h1]
    exact hg.symm
theorem raw_zero {B : List Int} {a : Nat} {e : Int} {k : Nat} (h : rawE B a e k = 0) : e = 0 ∧ k ≤ B.length - a ∧ rawP B a e k = (B.drop a).take k ∧ rawA B a e k = a + k := by
  unfold rawE at h
  by_cases he : e = 0
  · by_cases hk : B.length - a < k
    · rw [if_pos ⟨he, hk⟩] at h
      omega
    · refine ⟨he, by omega, ?_, ?_⟩
      · unfold rawP
        rw [if_pos ⟨he, by omega⟩]
      · unfold rawA
        rw [if_pos ⟨he, by omega⟩]
  · rw [if_neg (fun x => he x.1)] at h
    exact absurd h he
theorem part_len {B : List Int} {a k : Nat} (h : k ≤ B.length - a) : ((B.drop a).take k).length = k := by rw [List.length_take, List.length_drop]; omega
theorem part_digs {B : List Int} {a k : Nat} (hb : Bytes B) (h : k ≤ B.length - a) (h8 : k ≤ 8) : digs (numOf ((B.drop a).take k)) k = (B.drop a).take k := (digs_numOf k _ ((hb.drop a).take k) (part_len h) h8).1
/-- Bytes that are a frame are just what is laid of it, and its tag. -/
theorem taken_laid {B : List Int} (hb : Bytes B) (h : tErr B = 0) : 16 ≤ B.length ∧ laidM (tF B none 0) (tBody B) = B.take (B.length - 16) ∧ tTag B = B.drop (B.length - 16) ∧ tR B = true ∧ (tBody B).length ≤ 4096 := by
  unfold tErr at h
  by_cases h1 : tEnd B = 0
  · rw [if_neg (by simp [h1])] at h
    by_cases h2 : tR B = true
    · unfold tEnd at h1
      by_cases h3 : 0 < rleft B (tA8 B) (tE8 B)
      · rw [if_pos h3] at h1
        omega
      · rw [if_neg h3] at h1
        unfold rleft at h3
        rw [if_pos h1] at h3
        unfold tE8 at h1
        obtain ⟨z7, l7, -, a8⟩ := raw_zero h1
        have ht : tTag B = (B.drop (tA7 B)).take 16 := by
          unfold tTag rsumP
          rw [if_pos ⟨z7, l7⟩]
        have e7 := z7
        unfold tE7 rblobE at e7
        obtain ⟨zF, lc, pc, ac⟩ := raw_zero e7
        unfold rblobF at zF
        split at zF
        · omega
        · obtain ⟨z6, l6, p6, a6⟩ := raw_zero zF
          have hc := cnt2_is hb (tA6 B) (tE6 B)
          have e6 := z6
          unfold tE6 at e6
          obtain ⟨z5, l5, p5, a5⟩ := raw_zero e6
          have e5 := z5
          unfold tE5 at e5
          obtain ⟨z4, l4, p4, a4⟩ := raw_zero e5
          have e4 := z4
          unfold tE4 at e4
          obtain ⟨z3, l3, p3, a3⟩ := raw_zero e4
          have e3 := z3
          unfold tE3 at e3
          obtain ⟨z2, l2, p2, a2⟩ := raw_zero e3
          have e2 := z2
          unfold tE2 at e2
          obtain ⟨z1, l1, p1, a1⟩ := raw_zero e2
          have hV : tV B = 1 ∧ tE0 B = 0 := by
            unfold tE1 at z1
            by_cases hv : tV B = 1
            · rw [if_pos hv] at z1
              exact ⟨hv, z1⟩
            · rw [if_neg hv] at z1
              unfold failE at z1
              split at z1
              · omega
              · rename_i hn
                exact absurd ⟨z1, by decide⟩ hn
          obtain ⟨hV1, e0⟩ := hV
          have z0 := e0
          unfold tE0 at z0
          obtain ⟨-, l0, p0, a0⟩ := raw_zero z0
          have A1 : tA1 B = 1 := a0
          have A2 : tA2 B = 2 := by unfold tA2; rw [a1, A1]
          have A3 : tA3 B = 3 := by unfold tA3; rw [a2, A2]
          have A4 : tA4 B = 11 := by unfold tA4; rw [a3, A3]
          have A5 : tA5 B = 19 := by unfold tA5; rw [a4, A4]
          have A6 : tA6 B = 20 := by unfold tA6; rw [a5, A5]
          rw [A6] at l6 p6 a6
          have A7 : tA7 B = 22 + cnt2 B (tA6 B) (tE6 B) := by
            unfold tA7 rblobA
            rw [ac, A6, a6]
          rw [A6, a6] at lc pc
          have A8 : tA8 B = tA7 B + 16 := a8
          rw [A6] at A7 hc
          obtain ⟨n, hn⟩ : ∃ n, n = cnt2 B 20 (tE6 B) := ⟨_, rfl⟩
          rw [← hn] at hc A7 lc pc
          have hlen : B.length = 38 + n := by omega
          have hB : tBody B = (B.drop 22).take n := by
            unfold tBody rblobP
            rw [A6, a6, ← hn]
            exact pc
          have hBL : (tBody B).length = n := by rw [hB]; exact part_len (by omega)
          have h4096 : (tBody B).length ≤ 4096 := by
            have := (frB_is (p := tF B none 0) h2).2.2.2.2.2.2.2
            exact this
          refine ⟨by omega, ?_, by rw [ht, A7, hlen, show 38 + n - 16 = 22 + n by omega]; exact List.take_of_length_le (by rw [List.length_drop]; omega), h2, h4096⟩
          have d0 : digs 1 1 = (B.drop 0).take 1 := by
            have := part_digs hb (a := 0) (k := 1) (by omega) (by omega)
            rw [← this]
            congr 1
            rw [← hV1]
            unfold tV
            rw [p0]
          have d1 : digs (tFr B) 1 = (B.drop 1).take 1 := by unfold tFr; rw [p1, A1]; exact part_digs hb (by omega) (by omega)
          have d2 : digs (tTo B) 1 = (B.drop 2).take 1 := by unfold tTo; rw [p2, A2]; exact part_digs hb (by omega) (by omega)
          have d3 : digs (tBo B) 8 = (B.drop 3).take 8 := by unfold tBo; rw [p3, A3]; exact part_digs hb (by omega) (by omega)
          have d4 : digs (tCo B) 8 = (B.drop 11).take 8 := by unfold tCo; rw [p4, A4]; exact part_digs hb (by omega) (by omega)
          have d5 : digs (tKi B) 1 = (B.drop 19).take 1 := by unfold tKi; rw [p5, A5]; exact part_digs hb (by omega) (by omega)
          have d6 : digs ((tBody B).length : Int) 2 = (B.drop 20).take 2 := by
            rw [hBL, ← hc.1, p6]
            exact part_digs hb (by omega) (by omega)
          unfold laidM headM tF
          simp only
          rw [d0, d1, d2, d3, d4, d5, d6, hB, hlen]
          rw [show 38 + n - 16 = 0 + 1 + 1 + 1 + 8 + 8 + 1 + 2 + n by omega]
          simp only [List.take_add, List.take_zero, List.nil_append, List.drop_zero]
    · rw [if_neg h2] at h
      omega
  · rw [if_pos h1] at h
    exact absurd h h1
end Go.Proofs.YtgabjmmmiogfjaaDoor
