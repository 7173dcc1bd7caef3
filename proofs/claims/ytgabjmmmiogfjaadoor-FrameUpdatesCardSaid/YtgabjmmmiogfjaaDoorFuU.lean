/-
  An update that was laid is what is taken.
-/
import Derived.Test.YtgabjmmmiogfjaaDoorFuT
namespace Go.Proofs.YtgabjmmmiogfjaaDoor
open Go.RowKit

theorem entsB_cut (f : Nat → E3) : ∀ (k i : Nat), ∃ R, entsB f (i + k) = entsB f i ++ R
  | 0, i => ⟨[], by simp⟩
  | k + 1, i => by
    obtain ⟨R, e⟩ := entsB_cut f k i
    exact ⟨R ++ entB (f (i + k)).1 (f (i + k)).2.1 (f (i + k)).2.2, by rw [← Nat.add_assoc, entsB_succ, e, List.append_assoc]⟩
theorem entsB_at (f : Nat → E3) {i n : Nat} (h : i < n) : ∃ R, entsB f n = entsB f i ++ (entB (f i).1 (f i).2.1 (f i).2.2 ++ R) := by
  obtain ⟨R, e⟩ := entsB_cut f (n - (i + 1)) (i + 1)
  rw [show i + 1 + (n - (i + 1)) = n by omega] at e
  exact ⟨R, by rw [e, entsB_succ, List.append_assoc]⟩
theorem upd_head {u : Bool} {f : Nat → E3} {n : Nat} (hn : n ≤ 8) : uFull (updB u f n) = fullN u ∧ us3 (updB u f n) = (2, 0) ∧ uK (updB u f n) = n ∧ (updB u f n).drop 2 = entsB f n := by
  obtain ⟨B, hB⟩ : ∃ B, B = updB u f n := ⟨_, rfl⟩
  have h0 : B.drop 0 = digs (fullN u) 1 ++ (digs n 1 ++ entsB f n) := by rw [hB]; unfold updB; simp
  have hf : 0 ≤ fullN u ∧ fullN u ≤ 1 := by unfold fullN; cases u <;> simp
  rw [← hB]
  obtain ⟨a1, b1, c1⟩ := num_atU h0 hf.1 (by omega) (by omega)
  obtain ⟨a2, b2, c2⟩ := num_atU c1 (by omega) (by omega) (by omega)
  have e1 : uFull B = fullN u := b1
  have e2 : us1 B = (1, 0) := by
    unfold us1
    rw [a1, e1, if_neg (by omega)]
  have e3 : uN B = n := by unfold uN; rw [e2]; exact b2
  have e4 : us2 B = (2, 0) := by unfold us2; rw [e2]; exact a2
  refine ⟨e1, ?_, ?_, c2⟩
  · unfold us3
    rw [e4, e3, if_neg (by omega)]
  · unfold uK
    rw [e3, if_neg (by omega)]
    simp
/-- What stands at the j-th place of what was laid. -/
theorem upd_taken {w : World} {M : Nat} {a : Option Addr} {u : Bool} {f : Nat → E3} {n : Nat} (h : HoldsE w M a n f) (hok : updOk f n = true) (hn : n ≤ 8) :
    (∀ i, i ≤ n → uT (updB u f n) i = ((2 + (entsB f i).length, 0), lastD f i)) ∧ (∀ i, i < n → (nD (updB u f n) (uT (updB u f n) i).1 = (f i).1.d ∧ nE (updB u f n) (uT (updB u f n) i).1 = (f i).1.e ∧ nS (updB u f n) (uT (updB u f n) i).1 = (f i).1.s ∧ nM (updB u f n) (uT (updB u f n) i).1 = (f i).1.m ∧ nL (updB u f n) (uT (updB u f n) i).1 = (f i).1.lf) ∧ nW (updB u f n) (uT (updB u f n) i).1 = (f i).2.1 ∧ nP (updB u f n) (uT (updB u f n) i).1 = (f i).2.2) := by
  obtain ⟨e1, e2, e3, e4⟩ := upd_head (u := u) (f := f) hn
  obtain ⟨B, hB⟩ : ∃ B, B = updB u f n := ⟨_, rfl⟩
  rw [← hB] at e1 e2 e3 e4 ⊢
  have key : ∀ i, i < n → uT B i = ((2 + (entsB f i).length, 0), lastD f i) → gs7 B (uT B i).1 = (2 + (entsB f (i + 1)).length, 0) ∧ (nD B (uT B i).1 = (f i).1.d ∧ nE B (uT B i).1 = (f i).1.e ∧ nS B (uT B i).1 = (f i).1.s ∧ nM B (uT B i).1 = (f i).1.m ∧ nL B (uT B i).1 = (f i).1.lf) ∧ nW B (uT B i).1 = (f i).2.1 ∧ nP B (uT B i).1 = (f i).2.2 ∧ folB (lastD f i) (f i).1 = true := fun i hi ht => by
    have hs := updOk_le hok (show i + 1 ≤ n by omega)
    rw [updOk_succ, Bool.and_eq_true] at hs
    have hei := h.e i hi
    have ok := EV.ok_of hei hs.2
    obtain ⟨R, hR⟩ := entsB_at f hi
    have hd : B.drop (2 + (entsB f i).length) = entB (f i).1 (f i).2.1 (f i).2.2 ++ R := by
      rw [← List.drop_drop, e4, hR, List.drop_left]
    have hw : (f i).2.1.length = (f i).1.wn * 16 := by obtain ⟨_, _, _, e, _⟩ := hei.hw; exact e
    have hp : (f i).2.2.length = (f i).1.pn * 16 := by obtain ⟨_, _, _, e, _⟩ := hei.hp; exact e
    obtain ⟨k1, k2, k3, k4, -⟩ := ent_atU ok hw hp hd
    rw [ht]
    refine ⟨?_, k2, k3, k4, hs.2⟩
    rw [k1, entsB_succ, List.length_append, Nat.add_assoc]
  have all : ∀ i, i ≤ n → uT B i = ((2 + (entsB f i).length, 0), lastD f i) := fun i => by
    induction i with
    | zero =>
      intro _
      rw [show uT B 0 = (us3 B, -1) from rfl, e2]
      rfl
    | succ i ih =>
      intro hi
      have ht := ih (by omega)
      obtain ⟨k1, ⟨kd, ke, ks, km, -⟩, -, -, k5⟩ := key i (by omega) ht
      have hfol : uFol B (uT B i).2 (uT B i).1 = true := by
        unfold uFol
        rw [kd, ke, ks, km, ht]
        unfold folB at k5
        simp only [Bool.and_eq_true] at k5 ⊢
        exact ⟨k5.1, k5.2.1⟩
      rw [show uT B (i + 1) = (((gs7 B (uT B i).1).1, if uFol B (uT B i).2 (uT B i).1 = true then (gs7 B (uT B i).1).2 else failE (gs7 B (uT B i).1).2 10), nD B (uT B i).1) from rfl, if_pos hfol, k1, kd]
      rfl
  exact ⟨all, fun i hi => by
    obtain ⟨-, k2, k3, k4, -⟩ := key i hi (all i (by omega))
    exact ⟨k2, k3, k4⟩⟩
theorem upd_end {w : World} {M : Nat} {a : Option Addr} {u : Bool} {f : Nat → E3} {n : Nat} (h : HoldsE w M a n f) (hok : updOk f n = true) (hn : n ≤ 8) : uEnd (updB u f n) = 0 := by
  obtain ⟨e1, e2, e3, e4⟩ := upd_head (u := u) (f := f) hn
  have hT := (upd_taken (u := u) h hok hn).1 n (Nat.le_refl _)
  have hl : (updB u f n).length = 2 + (entsB f n).length := by
    unfold updB
    simp only [List.length_append, digs_len]
  unfold uEnd
  rw [e3, hT]
  unfold rleft
  simp only
  rw [hl]
  simp
end Go.Proofs.YtgabjmmmiogfjaaDoor
