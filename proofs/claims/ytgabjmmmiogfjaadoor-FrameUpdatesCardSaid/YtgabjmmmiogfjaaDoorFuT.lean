/-
  What was laid of an update is what is taken.
-/
import Derived.Test.YtgabjmmmiogfjaaDoorFuS
namespace Go.Proofs.YtgabjmmmiogfjaaDoor
open Go.RowKit

theorem digs_succU (n : Int) (k : Nat) : digs n (k + 1) = digs (n / 256) k ++ [n % 256] := by
  unfold digs
  rw [List.range_succ, List.map_append]
  congr 1
  · apply List.map_congr_left
    intro i hi
    have hi' := List.mem_range.1 hi
    have e : k + 1 - 1 - i = (k - 1 - i) + 1 := by omega
    rw [e, Int.pow_succ, Int.mul_comm, ← Int.ediv_ediv_of_nonneg (by omega)]
  · simp
theorem numOf_digsU : ∀ (k : Nat) (n : Int), 0 ≤ n → n < 256 ^ k → k ≤ 8 → numOf (digs n k) = n := by
  intro k
  induction k with
  | zero =>
    intro n h0 h1 _
    have : n = 0 := by simpa using (show n < 1 ∧ 0 ≤ n from ⟨by simpa using h1, h0⟩) |> fun h => by omega
    subst this
    rfl
  | succ k ih =>
    intro n h0 h1 h8
    rw [digs_succU, numOf_snoc, ih (n / 256) (by omega) (by rw [Int.pow_succ] at h1; omega) (by omega)]
    have h2 : (256 : Int) ^ (k + 1) ≤ 256 ^ 8 := by
      have e : (256 : Int) ^ 8 = 256 ^ (k + 1) * 256 ^ (8 - (k + 1)) := by rw [← Int.pow_add]; congr 1; omega
      have h3 : (0 : Int) < 256 ^ (k + 1) := Int.pow_pos (by omega)
      have h4 : (1 : Int) ≤ 256 ^ (8 - (k + 1)) := Int.pow_pos (by omega)
      rw [e]
      have := Int.mul_le_mul_of_nonneg_left h4 (Int.le_of_lt h3)
      omega
    have h3 : (256 : Int) ^ 8 = 18446744073709551616 := by decide
    rw [Int.emod_eq_of_lt (by omega) (by omega)]
    omega
theorem drop_lenU {B L R : List Int} {a : Nat} (h : B.drop a = L ++ R) : B.length - a = L.length + R.length := by
  have := congrArg List.length h
  simpa using this
theorem drop_onU {B L R : List Int} {a k : Nat} (h : B.drop a = L ++ R) (hk : L.length = k) : B.drop (a + k) = R := by
  rw [← List.drop_drop, h, List.drop_left' hk]
theorem raw_atU {B L R : List Int} {a k : Nat} (h : B.drop a = L ++ R) (hk : L.length = k) : stp B k (a, 0) = (a + k, 0) ∧ rawP B a 0 k = L := by
  have hl := drop_lenU h
  rw [hk] at hl
  constructor
  · unfold stp rawA rawE
    rw [if_pos ⟨rfl, by simp only; omega⟩, if_neg (by simp only; omega)]
  · unfold rawP
    rw [if_pos ⟨rfl, by omega⟩, h, List.take_left' hk]
theorem num_atU {B R : List Int} {a k : Nat} {x : Int} (h : B.drop a = digs x k ++ R) (h0 : 0 ≤ x) (h1 : x < 256 ^ k) (hk : k ≤ 8) : stp B k (a, 0) = (a + k, 0) ∧ numOf (rawP B a 0 k) = x ∧ B.drop (a + k) = R := by
  obtain ⟨e1, e2⟩ := raw_atU h (digs_len _ _)
  exact ⟨e1, by rw [e2]; exact numOf_digsU k x h0 h1 hk, drop_onU h (digs_len _ _)⟩
theorem sum_atU {B L R : List Int} {a : Nat} (h : B.drop a = L ++ R) (hk : L.length = 16) : stp B 16 (a, 0) = (a + 16, 0) ∧ rsumP B a 0 = L ∧ B.drop (a + 16) = R := by
  obtain ⟨e1, -⟩ := raw_atU h hk
  have hl := drop_lenU h
  refine ⟨e1, ?_, drop_onU h hk⟩
  unfold rsumP
  rw [if_pos ⟨rfl, by omega⟩, h, List.take_left' hk]
theorem ssm_atU {B L R : List Int} {a n : Nat} {most : Int} (h : B.drop a = digs n 1 ++ (L ++ R)) (hk : L.length = n * 16) (hn : n ≤ 255) (hm : (n : Int) ≤ most) : ssm B most (a, 0) = (a + (1 + n * 16), 0) ∧ rsumsP B a 0 most = L ∧ B.drop (a + (1 + n * 16)) = R := by
  obtain ⟨e1, e2, e3⟩ := num_atU h (by omega) (by omega) (by omega)
  have hA : rawA B a 0 1 = a + 1 := congrArg Prod.fst e1
  have hE : rawE B a 0 1 = 0 := congrArg Prod.snd e1
  have hc : cnt1 B a 0 = n := by unfold cnt1; rw [e2]; simp
  have ho : overF most n = false := by
    unfold overF
    rw [decide_eq_false_iff_not]
    split <;> omega
  have hl := drop_lenU e3
  have hE2 : rsumsE B a 0 most = 0 := by
    unfold rsumsE
    rw [hA, hE, hc, ho]
    rw [if_neg (by simp), if_neg (by simp), if_pos (by omega)]
  refine ⟨?_, ?_, ?_⟩
  · unfold ssm
    simp only
    rw [hE2]
    unfold rsumsA
    rw [hA, hE, hc, ho]
    rw [if_neg (by simp), if_neg (by simp), if_pos (by omega), Nat.add_assoc]
  · unfold rsumsP
    rw [if_pos hE2, hA, hc, e3, List.take_left' hk]
  · rw [← Nat.add_assoc]
    exact drop_onU e3 hk
/-- An entry that was laid is what is taken. -/
theorem ent_atU {B wl pl R : List Int} {a : Nat} {x : EV} (ok : x.Ok) (hw : wl.length = x.wn * 16) (hp : pl.length = x.pn * 16) (h : B.drop a = entB x wl pl ++ R) :
    gs7 B (a, 0) = (a + (entB x wl pl).length, 0) ∧ (nD B (a, 0) = x.d ∧ nE B (a, 0) = x.e ∧ nS B (a, 0) = x.s ∧ nM B (a, 0) = x.m ∧ nL B (a, 0) = x.lf) ∧ nW B (a, 0) = wl ∧ nP B (a, 0) = pl ∧ B.drop (a + (entB x wl pl).length) = R := by
  have hlen : (entB x wl pl).length = 1 + 4 + 1 + 1 + 16 + (1 + x.wn * 16) + (1 + x.pn * 16) := by
    unfold entB
    simp only [List.length_append, digs_len, ok.l, hw, hp]
    omega
  have hB : B.drop a = digs x.d 1 ++ (digs x.e 4 ++ (digs x.s 1 ++ (digs x.m 1 ++ (x.lf ++ (digs x.wn 1 ++ (wl ++ (digs x.pn 1 ++ (pl ++ R)))))))) := by rw [h]; unfold entB; simp only [List.append_assoc]
  have q1 := ok.d
  have q2 := ok.e
  have q3 := ok.s
  have q4 := ok.m
  have q5 := ok.w
  have q6 := ok.p
  obtain ⟨a1, b1, c1⟩ := num_atU hB (by omega) (by omega) (by omega)
  obtain ⟨a2, b2, c2⟩ := num_atU c1 (by omega) (by omega) (by omega)
  obtain ⟨a3, b3, c3⟩ := num_atU c2 (by omega) (by omega) (by omega)
  obtain ⟨a4, b4, c4⟩ := num_atU c3 (by omega) (by omega) (by omega)
  obtain ⟨a5, b5, c5⟩ := sum_atU c4 ok.l
  obtain ⟨a6, b6, c6⟩ := ssm_atU (most := 3) c5 hw (by omega) (by omega)
  obtain ⟨a7, b7, c7⟩ := ssm_atU (most := 6) c6 hp (by omega) (by omega)
  have g1 : gs1 B (a, 0) = (a + 1, 0) := a1
  have g2 : gs2 B (a, 0) = (a + 1 + 4, 0) := by unfold gs2; rw [g1]; exact a2
  have g3 : gs3 B (a, 0) = (a + 1 + 4 + 1, 0) := by unfold gs3; rw [g2]; exact a3
  have g4 : gs4 B (a, 0) = (a + 1 + 4 + 1 + 1, 0) := by unfold gs4; rw [g3]; exact a4
  have g5 : gs5 B (a, 0) = (a + 1 + 4 + 1 + 1 + 16, 0) := by unfold gs5; rw [g4]; exact a5
  have g6 : gs6 B (a, 0) = (a + 1 + 4 + 1 + 1 + 16 + (1 + x.wn * 16), 0) := by unfold gs6; rw [g5]; exact a6
  have g7 : gs7 B (a, 0) = (a + 1 + 4 + 1 + 1 + 16 + (1 + x.wn * 16) + (1 + x.pn * 16), 0) := by unfold gs7; rw [g6]; exact a7
  have hend : a + (entB x wl pl).length = a + 1 + 4 + 1 + 1 + 16 + (1 + x.wn * 16) + (1 + x.pn * 16) := by omega
  refine ⟨by rw [g7, hend], ⟨b1, by unfold nE; rw [g1]; exact b2, by unfold nS; rw [g2]; exact b3, by unfold nM; rw [g3]; exact b4, by unfold nL; rw [g4]; exact b5⟩, by unfold nW; rw [g5]; exact b6, by unfold nP; rw [g6]; exact b7, by rw [hend]; exact c7⟩
end Go.Proofs.YtgabjmmmiogfjaaDoor
