/-
  What was laid is what is taken.
-/
import Derived.Test.YtgabjmmmiogfjaaDoorFrX
namespace Go.Proofs.YtgabjmmmiogfjaaDoor
open Go.RowKit

theorem numOf_digs : ∀ (k : Nat) (n : Int), 0 ≤ n → n < 256 ^ k → k ≤ 8 → numOf (digs n k) = n := by
  intro k
  induction k with
  | zero =>
    intro n h0 h1 _
    have : n = 0 := by simpa using (show n < 1 ∧ 0 ≤ n from ⟨by simpa using h1, h0⟩) |> fun h => by omega
    subst this
    rfl
  | succ k ih =>
    intro n h0 h1 h8
    rw [digs_succ, numOf_snoc, ih (n / 256) (by omega) (by rw [Int.pow_succ] at h1; omega) (by omega)]
    have h2 : (256 : Int) ^ (k + 1) ≤ 256 ^ 8 := by
      have e : (256 : Int) ^ 8 = 256 ^ (k + 1) * 256 ^ (8 - (k + 1)) := by rw [← Int.pow_add]; congr 1; omega
      have h3 : (0 : Int) < 256 ^ (k + 1) := Int.pow_pos (by omega)
      have h4 : (1 : Int) ≤ 256 ^ (8 - (k + 1)) := Int.pow_pos (by omega)
      rw [e]
      have := Int.mul_le_mul_of_nonneg_left h4 (Int.le_of_lt h3)
      omega
    have h3 : (256 : Int) ^ 8 = 18446744073709551616 := by decide
    rw [Int.emod_eq_of_lt (by omega) (by omega)]
    omega
theorem raw_app {B pre part rest : List Int} {a k : Nat} (h : B = pre ++ (part ++ rest)) (ha : pre.length = a) (hk : part.length = k) : rawP B a 0 k = part ∧ rawE B a 0 k = 0 ∧ rawA B a 0 k = a + k := by
  subst h ha hk
  have hl : part.length ≤ (pre ++ (part ++ rest)).length - pre.length := by simp only [List.length_append]; omega
  unfold rawP rawE rawA
  rw [if_pos ⟨rfl, hl⟩, if_neg (by omega), if_pos ⟨rfl, hl⟩]
  refine ⟨?_, rfl, rfl⟩
  rw [List.drop_left, List.take_left]
/-- What is laid of a frame, with any tag, is that frame. -/
theorem laid_taken {p : FV} {tp T B : List Int} (hp : frB p = true) (hid : BigP p) (hn : p.n = tp.length) (hT : T.length = 16) (hB : B = laidM p tp ++ T) :
    tErr B = 0 ∧ tFr B = p.fr ∧ tTo B = p.to ∧ tBo B = p.bo ∧ tCo B = p.co ∧ tKi B = p.ki ∧ tBody B = tp ∧ tTag B = T ∧ B.length - 16 = (laidM p tp).length ∧ B.take (B.length - 16) = laidM p tp := by
  have hf := frB_is hp
  have hid' := hid
  obtain ⟨⟨hb0, hb1⟩, hc0, hc1⟩ := hid'
  have h4096 : tp.length ≤ 4096 := by omega
  have hlen : B.length = 38 + tp.length := by rw [hB, List.length_append, laidM_len, hT]; omega
  have r0 := raw_app (B := B) (pre := ([] : List Int)) (part := digs 1 1) (rest := digs p.fr 1 ++ (digs p.to 1 ++ (digs p.bo 8 ++ (digs p.co 8 ++ (digs p.ki 1 ++ (digs tp.length 2 ++ (tp ++ (T)))))))) (a := 0) (k := 1) (by rw [hB]; unfold laidM headM; simp only [List.append_assoc, List.nil_append]) (by simp only [List.length_append, List.length_nil, digs_len]) (digs_len _ _)
  have r1 := raw_app (B := B) (pre := digs 1 1) (part := digs p.fr 1) (rest := digs p.to 1 ++ (digs p.bo 8 ++ (digs p.co 8 ++ (digs p.ki 1 ++ (digs tp.length 2 ++ (tp ++ (T))))))) (a := 1) (k := 1) (by rw [hB]; unfold laidM headM; simp only [List.append_assoc, List.nil_append]) (by simp only [List.length_append, List.length_nil, digs_len]) (digs_len _ _)
  have r2 := raw_app (B := B) (pre := digs 1 1 ++ digs p.fr 1) (part := digs p.to 1) (rest := digs p.bo 8 ++ (digs p.co 8 ++ (digs p.ki 1 ++ (digs tp.length 2 ++ (tp ++ (T)))))) (a := 2) (k := 1) (by rw [hB]; unfold laidM headM; simp only [List.append_assoc, List.nil_append]) (by simp only [List.length_append, List.length_nil, digs_len]) (digs_len _ _)
  have r3 := raw_app (B := B) (pre := digs 1 1 ++ digs p.fr 1 ++ digs p.to 1) (part := digs p.bo 8) (rest := digs p.co 8 ++ (digs p.ki 1 ++ (digs tp.length 2 ++ (tp ++ (T))))) (a := 3) (k := 8) (by rw [hB]; unfold laidM headM; simp only [List.append_assoc, List.nil_append]) (by simp only [List.length_append, List.length_nil, digs_len]) (digs_len _ _)
  have r4 := raw_app (B := B) (pre := digs 1 1 ++ digs p.fr 1 ++ digs p.to 1 ++ digs p.bo 8) (part := digs p.co 8) (rest := digs p.ki 1 ++ (digs tp.length 2 ++ (tp ++ (T)))) (a := 11) (k := 8) (by rw [hB]; unfold laidM headM; simp only [List.append_assoc, List.nil_append]) (by simp only [List.length_append, List.length_nil, digs_len]) (digs_len _ _)
  have r5 := raw_app (B := B) (pre := digs 1 1 ++ digs p.fr 1 ++ digs p.to 1 ++ digs p.bo 8 ++ digs p.co 8) (part := digs p.ki 1) (rest := digs tp.length 2 ++ (tp ++ (T))) (a := 19) (k := 1) (by rw [hB]; unfold laidM headM; simp only [List.append_assoc, List.nil_append]) (by simp only [List.length_append, List.length_nil, digs_len]) (digs_len _ _)
  have r6 := raw_app (B := B) (pre := digs 1 1 ++ digs p.fr 1 ++ digs p.to 1 ++ digs p.bo 8 ++ digs p.co 8 ++ digs p.ki 1) (part := digs tp.length 2) (rest := tp ++ (T)) (a := 20) (k := 2) (by rw [hB]; unfold laidM headM; simp only [List.append_assoc]) (by simp only [List.length_append, digs_len]) (digs_len _ _)
  have r7 := raw_app (B := B) (pre := digs 1 1 ++ digs p.fr 1 ++ digs p.to 1 ++ digs p.bo 8 ++ digs p.co 8 ++ digs p.ki 1 ++ digs tp.length 2) (part := tp) (rest := T) (a := 22) (k := tp.length) (by rw [hB]; unfold laidM headM; simp only [List.append_assoc]) (by simp only [List.length_append, digs_len]) rfl
  have n0 : tV B = 1 := by unfold tV; rw [r0.1]; exact numOf_digs 1 1 (by decide) (by decide) (by decide)
  have e0 : tE0 B = 0 := r0.2.1
  have a1 : tA1 B = 1 := r0.2.2
  have e1 : tE1 B = 0 := by unfold tE1; rw [if_pos n0]; exact e0
  have n1 : tFr B = p.fr := by unfold tFr; rw [a1, e1, r1.1]; exact numOf_digs 1 _ (by omega) (by omega) (by decide)
  have e2 : tE2 B = 0 := by unfold tE2; rw [a1, e1]; exact r1.2.1
  have a2 : tA2 B = 2 := by unfold tA2; rw [a1, e1]; exact r1.2.2
  have n2 : tTo B = p.to := by unfold tTo; rw [a2, e2, r2.1]; exact numOf_digs 1 _ (by omega) (by omega) (by decide)
  have e3 : tE3 B = 0 := by unfold tE3; rw [a2, e2]; exact r2.2.1
  have a3 : tA3 B = 3 := by unfold tA3; rw [a2, e2]; exact r2.2.2
  have n3 : tBo B = p.bo := by unfold tBo; rw [a3, e3, r3.1]; exact numOf_digs 8 _ hb0 hb1 (by decide)
  have e4 : tE4 B = 0 := by unfold tE4; rw [a3, e3]; exact r3.2.1
  have a4 : tA4 B = 11 := by unfold tA4; rw [a3, e3]; exact r3.2.2
  have n4 : tCo B = p.co := by unfold tCo; rw [a4, e4, r4.1]; exact numOf_digs 8 _ hc0 hc1 (by decide)
  have e5 : tE5 B = 0 := by unfold tE5; rw [a4, e4]; exact r4.2.1
  have a5 : tA5 B = 19 := by unfold tA5; rw [a4, e4]; exact r4.2.2
  have n5 : tKi B = p.ki := by unfold tKi; rw [a5, e5, r5.1]; exact numOf_digs 1 _ (by omega) (by omega) (by decide)
  have e6 : tE6 B = 0 := by unfold tE6; rw [a5, e5]; exact r5.2.1
  have a6 : tA6 B = 20 := by unfold tA6; rw [a5, e5]; exact r5.2.2
  have hc : cnt2 B 20 0 = tp.length := by
    unfold cnt2
    rw [r6.1, numOf_digs 2 _ (by omega) (by omega) (by decide)]
    omega
  have hF : rblobF B 20 0 4096 = 0 := by
    unfold rblobF
    rw [hc, if_neg]
    · exact r6.2.1
    · rintro ⟨_, h | h⟩
      · unfold overF at h
        have := of_decide_eq_true h
        split at this <;> omega
      · omega
  have nb : tBody B = tp := by unfold tBody rblobP; rw [a6, e6, hF, hc, r6.2.2]; exact r7.1
  have e7 : tE7 B = 0 := by unfold tE7 rblobE; rw [a6, e6, hF, hc, r6.2.2]; exact r7.2.1
  have a7 : tA7 B = 22 + tp.length := by unfold tA7 rblobA; rw [a6, e6, hF, hc, r6.2.2]; exact r7.2.2
  have r8 := raw_app (B := B) (pre := laidM p tp) (part := T) (rest := []) (a := 22 + tp.length) (k := 16) (by rw [hB, List.append_nil]) (laidM_len _ _) hT
  have nt : tTag B = T := by
    have := r8.1
    unfold rawP at this
    unfold tTag rsumP
    rw [a7, e7]
    have h16 : 16 ≤ B.length - (22 + tp.length) := by omega
    rw [if_pos ⟨rfl, h16⟩] at this ⊢
    exact this
  have e8 : tE8 B = 0 := by unfold tE8; rw [a7, e7]; exact r8.2.1
  have a8 : tA8 B = 38 + tp.length := by unfold tA8; rw [a7, e7]; have := r8.2.2; omega
  have hE : tEnd B = 0 := by
    unfold tEnd rleft
    rw [e8, a8, if_pos rfl, hlen, if_neg (by omega)]
  have hR : tR B = true := by
    unfold tR tF frB
    rw [n1, n2, n3, n4, n5, nb]
    simp only
    unfold frB at hp
    rw [hn] at hp
    exact hp
  have hz : B.length - 16 = (laidM p tp).length := by rw [laidM_len]; omega
  refine ⟨?_, n1, n2, n3, n4, n5, nb, nt, hz, ?_⟩
  · unfold tErr
    rw [if_neg (by simp [hE]), if_pos hR]
  · rw [hz, hB, List.take_left]
end Go.Proofs.YtgabjmmmiogfjaaDoor
