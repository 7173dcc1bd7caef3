/-
  Two ways to one top part somewhere: mathematics of LadderSound.
  The tree over an epoch's ladders: mathematics of layer 7.
  The document's Fold.
-/
import Derived.Test.YtahmioiefmheeaaDoorGf21
namespace Go.Proofs.YtahmioiefmheeaaDoor
open Go.RowKit

theorem joinT_inj {d e s r : Int} {x y x' y' : List Int} (hx : x.length = 16) (hx' : x'.length = 16) (h : joinT d e s r x y = joinT d e s r x' y') : x = x' ∧ y = y' := by
  unfold joinT at h
  simp only [List.cons.injEq, true_and, List.append_assoc] at h
  have h1 := List.append_cancel_left h
  exact List.append_inj h1 (by omega)
/-- What is summed below is summed for the whole. -/
theorem nodeT_sub (d e s r : Int) (x : List Int) : ∀ (c l q : Nat) (t : List Int), q < 2 ^ c → t ∈ nodeT d e s r x l q → t ∈ nodeT d e s r x (l + c) 0
  | 0, l, q, t, hq, h => by
    have : q = 0 := by simpa using hq
    subst this
    exact h
  | c + 1, l, q, t, hq, h => by
    have h2 : q / 2 < 2 ^ c := by rw [Nat.pow_succ] at hq; omega
    have h3 := nodeT_sub d e s r x c (l + 1) (q / 2) t h2 (by
      rw [nodeT]
      by_cases hp : q % 2 = 0
      · have e1 : 2 * ((q / 2 : Nat) : Int) = (q : Int) := by omega
        rw [e1]
        exact List.mem_append_left _ (List.mem_append_left _ h)
      · have e1 : 2 * ((q / 2 : Nat) : Int) + 1 = (q : Int) := by omega
        rw [e1]
        exact List.mem_append_left _ (List.mem_append_right _ h))
    rw [show l + (c + 1) = l + 1 + c by omega]
    exact h3
theorem riseTL_at (d e s r : Int) (x : List Int) (j : Nat) (p : List Int) : ∀ (n l : Nat), l < n → (riseTL d e s r x j p n).getD l [] = if j / 2 ^ l % 2 = 0 then joinT d e s r (riseL d e s r x j p l) (segL p l) else joinT d e s r (segL p l) (riseL d e s r x j p l)
  | 0, l, h => by omega
  | n + 1, l, h => by
    rw [riseTL]
    by_cases hl : l < n
    · rw [List.getD_eq_getElem?_getD, List.getElem?_append_left (by rw [riseTL_len]; exact hl), ← List.getD_eq_getElem?_getD]
      exact riseTL_at d e s r x j p n l hl
    · have : l = n := by omega
      subst this
      rw [List.getD_eq_getElem?_getD, List.getElem?_append_right (by rw [riseTL_len]; omega), riseTL_len, Nat.sub_self]
      rfl
theorem clash_of_mem {us bs : List (List Int)} {t : List Int} {k : Nat} (h1 : t ∈ us) (h2 : k < bs.length) (hs : shortL t = shortL (bs.getD k [])) (hne : t ≠ bs.getD k []) : ClashP us bs := by
  obtain ⟨i, hi, rfl⟩ := List.mem_iff_getElem.1 h1
  refine ⟨i, k, hi, h2, ?_, ?_⟩
  · rw [List.getD_eq_getElem?_getD (l := us), List.getElem?_eq_getElem hi]; exact hs
  · rw [List.getD_eq_getElem?_getD (l := us), List.getElem?_eq_getElem hi]; exact hne
theorem sound_step (d e s r : Int) (x xl : List Int) (k j : Nat) (p : List Int) (hxl : xl.length = 16) (hp : p.length = k * 16) (hj : j < 2 ^ k) : ∀ l, l ≤ k → riseL d e s r xl j p l = nodeS d e s r x l (j / 2 ^ l : Nat) →
    (xl = nodeS d e s r x 0 j ∧ ∀ l', l' < l → segL p l' = nodeS d e s r x l' (besI j l' : Nat)) ∨ ClashP (nodeT d e s r x k 0) (riseTL d e s r xl j p k)
  | 0, _, h => by
    refine .inl ⟨?_, fun l' h' => by omega⟩
    simpa [riseL] using h
  | l + 1, hl, h => by
    have hd : j / 2 ^ (l + 1) = j / 2 ^ l / 2 := by rw [Nat.pow_succ, Nat.div_div_eq_div_mul]
    have hq : j / 2 ^ l / 2 < 2 ^ (k - (l + 1)) := by
      rw [← hd, Nat.div_lt_iff_lt_mul (Nat.pow_pos (by decide)), ← Nat.pow_add, Nat.sub_add_cancel (by omega)]
      exact hj
    -- the text that is summed for the tree
    have hmem : joinT d e s r (nodeS d e s r x l (2 * ((j / 2 ^ l / 2 : Nat) : Int))) (nodeS d e s r x l (2 * ((j / 2 ^ l / 2 : Nat) : Int) + 1)) ∈ nodeT d e s r x k 0 := by
      have h1 := nodeT_sub d e s r x (k - (l + 1)) (l + 1) (j / 2 ^ l / 2) (joinT d e s r (nodeS d e s r x l (2 * ((j / 2 ^ l / 2 : Nat) : Int))) (nodeS d e s r x l (2 * ((j / 2 ^ l / 2 : Nat) : Int) + 1))) hq (by
        rw [nodeT]
        exact List.mem_append_right _ (List.mem_singleton.2 rfl))
      rw [show l + 1 + (k - (l + 1)) = k by omega] at h1
      exact h1
    have hat := riseTL_at d e s r xl j p k l (by omega)
    have hlen : l < (riseTL d e s r xl j p k).length := by rw [riseTL_len]; omega
    have hyl := riseL_len d e s r xl j p hxl l
    have hzl : (segL p l).length = 16 := segL_len hp (by omega)
    rw [riseL, hd] at h
    have hn : nodeS d e s r x (l + 1) ((j / 2 ^ l / 2 : Nat) : Int) = shortL (joinT d e s r (nodeS d e s r x l (2 * ((j / 2 ^ l / 2 : Nat) : Int))) (nodeS d e s r x l (2 * ((j / 2 ^ l / 2 : Nat) : Int) + 1))) := rfl
    rw [hn] at h
    by_cases hpar : j / 2 ^ l % 2 = 0
    · rw [if_pos hpar] at h hat
      by_cases heq : joinT d e s r (nodeS d e s r x l (2 * ((j / 2 ^ l / 2 : Nat) : Int))) (nodeS d e s r x l (2 * ((j / 2 ^ l / 2 : Nat) : Int) + 1)) = joinT d e s r (riseL d e s r xl j p l) (segL p l)
      · obtain ⟨h1, h2⟩ := joinT_inj (nodeS_len _ _ _ _ _ _ _) hyl heq
        have e1 : 2 * ((j / 2 ^ l / 2 : Nat) : Int) = ((j / 2 ^ l : Nat) : Int) := by omega
        have e2 : 2 * ((j / 2 ^ l / 2 : Nat) : Int) + 1 = ((besI j l : Nat) : Int) := by unfold besI; generalize j / 2 ^ l = q at hpar ⊢; rw [if_neg (by omega)]; omega
        rw [e1] at h1
        rw [e2] at h2
        rcases sound_step d e s r x xl k j p hxl hp hj l (by omega) h1.symm with ⟨g1, g2⟩ | g
        · refine .inl ⟨g1, fun l' hl' => ?_⟩
          rcases Nat.lt_succ_iff_lt_or_eq.1 hl' with h' | h'
          · exact g2 l' h'
          · subst h'; exact h2.symm
        · exact .inr g
      · exact .inr (clash_of_mem hmem hlen (by rw [hat]; exact h.symm) (by rw [hat]; exact heq))
    · rw [if_neg hpar] at h hat
      by_cases heq : joinT d e s r (nodeS d e s r x l (2 * ((j / 2 ^ l / 2 : Nat) : Int))) (nodeS d e s r x l (2 * ((j / 2 ^ l / 2 : Nat) : Int) + 1)) = joinT d e s r (segL p l) (riseL d e s r xl j p l)
      · obtain ⟨h1, h2⟩ := joinT_inj (nodeS_len _ _ _ _ _ _ _) hzl heq
        have e1 : 2 * ((j / 2 ^ l / 2 : Nat) : Int) + 1 = ((j / 2 ^ l : Nat) : Int) := by omega
        have e2 : 2 * ((j / 2 ^ l / 2 : Nat) : Int) = ((besI j l : Nat) : Int) := by unfold besI; generalize j / 2 ^ l = q at hpar ⊢; rw [if_pos (by omega)]; omega
        rw [e1] at h2
        rw [e2] at h1
        rcases sound_step d e s r x xl k j p hxl hp hj l (by omega) h2.symm with ⟨g1, g2⟩ | g
        · refine .inl ⟨g1, fun l' hl' => ?_⟩
          rcases Nat.lt_succ_iff_lt_or_eq.1 hl' with h' | h'
          · exact g2 l' h'
          · subst h'; exact h1.symm
        · exact .inr g
      · exact .inr (clash_of_mem hmem hlen (by rw [hat]; exact h.symm) (by rw [hat]; exact heq))
theorem rowsL_segs (p : List Int) : ∀ n, n * 16 ≤ p.length → rowsL (fun i => segL p i) n = p.take (n * 16)
  | 0, _ => by simp [rowsL]
  | n + 1, h => by rw [rowsL, rowsL_segs p n (by omega), take_seg]
/-- Whatever leaf and way rise to the top: they are the node's own, or two unlike texts have one sum. -/
theorem ladder_sound (d e s r : Int) (x xl : List Int) (k j : Nat) (p : List Int) (hxl : xl.length = 16) (hp : p.length = k * 16) (hj : j < 2 ^ k) (h : riseL d e s r xl j p k = nodeS d e s r x k 0) :
    (xl = nodeS d e s r x 0 j ∧ p = wayL d e s r x k j) ∨ ClashP (nodeT d e s r x k 0) (riseTL d e s r xl j p k) := by
  have h0 : j / 2 ^ k = 0 := Nat.div_eq_of_lt hj
  rcases sound_step d e s r x xl k j p hxl hp hj k (Nat.le_refl _) (by rw [h0]; exact h) with ⟨h1, h2⟩ | g
  · refine .inl ⟨h1, ?_⟩
    have e1 := rowsL_segs p k (by omega)
    rw [List.take_of_length_le (by omega)] at e1
    rw [← e1]
    exact rowsL_congr k fun i hi => h2 i hi
  · exact .inr g
end Go.Proofs.YtahmioiefmheeaaDoor

namespace Go.Proofs.YtahmioiefmheeaaDoor
open Go.RowKit

/-- What stands at a level and a place above leaves; what is summed for it. -/
def nodeG (d e : Int) (L : List Int) : Nat → Nat → List Int
  | 0, q => segL L q
  | v + 1, q => shortL (aboveT d e (v + 1) (nodeG d e L v (2 * q)) (nodeG d e L v (2 * q + 1)))
def nodeGT (d e : Int) (L : List Int) : Nat → Nat → List (List Int)
  | 0, _ => []
  | v + 1, q => (nodeGT d e L v (2 * q) ++ nodeGT d e L v (2 * q + 1)) ++ [aboveT d e (v + 1) (nodeG d e L v (2 * q)) (nodeG d e L v (2 * q + 1))]
theorem nodeG_len {d e : Int} {L : List Int} {n : Nat} (hL : L.length = n * 16) : ∀ (v q : Nat), (q + 1) * 2 ^ v ≤ n → (nodeG d e L v q).length = 16
  | 0, q, h => segL_len hL (by simp at h; omega)
  | _ + 1, _, _ => shortL_len _
theorem nodeG_bytes {d e : Int} {L : List Int} (hL : Bytes L) : ∀ (v q : Nat), Bytes (nodeG d e L v q)
  | 0, q => hL.seg q
  | _ + 1, _ => shortL_bytes _
theorem nodeGT_len (d e : Int) (L : List Int) : ∀ (v q : Nat), (nodeGT d e L v q).length = 2 ^ v - 1
  | 0, _ => rfl
  | v + 1, q => by
    rw [nodeGT, List.length_append, List.length_append, nodeGT_len d e L v, nodeGT_len d e L v, List.length_singleton, Nat.pow_succ]
    have : 0 < 2 ^ v := Nat.pow_pos (by decide)
    omega
/-- The path from a leaf. -/
def pathG (d e : Int) (L : List Int) (h j : Nat) : List Int := rowsL (fun l => nodeG d e L l (besI j l)) h
theorem below_pow {j l h : Nat} (hj : j < 2 ^ h) (hl : l ≤ h) : (j / 2 ^ l + 1) * 2 ^ l ≤ 2 ^ h := by
  have h1 : j / 2 ^ l < 2 ^ (h - l) := by
    rw [Nat.div_lt_iff_lt_mul (Nat.pow_pos (by decide)), ← Nat.pow_add, Nat.sub_add_cancel hl]
    exact hj
  calc (j / 2 ^ l + 1) * 2 ^ l ≤ 2 ^ (h - l) * 2 ^ l := Nat.mul_le_mul_right _ h1
    _ = 2 ^ h := by rw [← Nat.pow_add, Nat.sub_add_cancel hl]
theorem beside_pow {j l h : Nat} (hj : j < 2 ^ h) (hl : l < h) : (besI j l + 1) * 2 ^ l ≤ 2 ^ h := by
  have h1 := besI_lt hj hl
  calc (besI j l + 1) * 2 ^ l ≤ 2 ^ (h - l) * 2 ^ l := Nat.mul_le_mul_right _ h1
    _ = 2 ^ h := by rw [← Nat.pow_add, Nat.sub_add_cancel (Nat.le_of_lt hl)]
theorem rowsL_len' {f : Nat → List Int} : ∀ n, (∀ i, i < n → (f i).length = 16) → (rowsL f n).length = n * 16
  | 0, _ => rfl
  | n + 1, h => by
    rw [rowsL, List.length_append, rowsL_len' n (fun i hi => h i (by omega)), h n (by omega)]
    omega
theorem rowsL_mid' {f : Nat → List Int} : ∀ n, (∀ i, i < n → (f i).length = 16) → ∀ i, i < n → segL (rowsL f n) i = f i
  | 0, _, i, hi => by omega
  | n + 1, h, i, hi => by
    have hl := rowsL_len' n (fun i hi => h i (by omega))
    unfold segL
    rw [rowsL]
    by_cases hlt : i < n
    · rw [List.drop_append_of_le_length (by omega), List.take_append_of_le_length (by rw [List.length_drop]; omega)]
      exact rowsL_mid' n (fun i hi => h i (by omega)) i hlt
    · have : i = n := by omega
      subst this
      rw [List.drop_append, hl, Nat.sub_self, List.drop_of_length_le (by omega), List.nil_append, List.drop_zero, List.take_of_length_le (by rw [h i (by omega)]; omega)]
theorem pathG_len {d e : Int} {L : List Int} {h j : Nat} (hL : L.length = 2 ^ h * 16) (hj : j < 2 ^ h) : (pathG d e L h j).length = h * 16 :=
  rowsL_len' h fun l hl => nodeG_len hL l _ (beside_pow hj hl)
theorem pathG_bytes {d e : Int} {L : List Int} (hL : Bytes L) (h j : Nat) : Bytes (pathG d e L h j) := rowsL_bytes (fun _ => nodeG_bytes hL _ _) _
theorem pathG_seg {d e : Int} {L : List Int} {h j l : Nat} (hL : L.length = 2 ^ h * 16) (hj : j < 2 ^ h) (hl : l < h) : segL (pathG d e L h j) l = nodeG d e L l (besI j l) :=
  rowsL_mid' (f := fun l => nodeG d e L l (besI j l)) h (fun l hl => nodeG_len hL l _ (beside_pow hj hl)) l hl
/-- The path of each leaf leads to the root. -/
theorem foldL_path {d e : Int} {L : List Int} {h j : Nat} (hL : L.length = 2 ^ h * 16) (hj : j < 2 ^ h) : ∀ l, l ≤ h → foldL d e (segL L j) j (pathG d e L h j) l = nodeG d e L l (j / 2 ^ l)
  | 0, _ => by simp [foldL, nodeG]
  | l + 1, hl => by
    have hd : j / 2 ^ (l + 1) = j / 2 ^ l / 2 := by rw [Nat.pow_succ, Nat.div_div_eq_div_mul]
    rw [foldL, foldL_path hL hj l (by omega), pathG_seg hL hj (by omega), hd, nodeG]
    unfold besI
    generalize j / 2 ^ l = q
    by_cases hp : q % 2 = 1
    · rw [if_pos hp, if_pos hp]
      have e1 : 2 * (q / 2) = q - 1 := by omega
      have e2 : 2 * (q / 2) + 1 = q := by omega
      rw [e2, e1]
    · rw [if_neg hp, if_neg hp]
      have e1 : 2 * (q / 2) = q := by omega
      rw [e1]
/-- The texts that are summed on the way. -/
def foldTL (d e : Int) (x : List Int) (j : Nat) (p : List Int) : Nat → List (List Int)
  | 0 => []
  | l + 1 => foldTL d e x j p l ++ [if j / 2 ^ l % 2 = 1 then aboveT d e (l + 1) (segL p l) (foldL d e x j p l) else aboveT d e (l + 1) (foldL d e x j p l) (segL p l)]
def foldT (d e : Int) (x : List Int) (i : Int) (p : List Int) (n : Nat) : List (List Int) := if foldOk i n then foldTL d e x i.toNat p n else []
theorem foldTL_len (d e : Int) (x : List Int) (j : Nat) (p : List Int) : ∀ l, (foldTL d e x j p l).length = l
  | 0 => rfl
  | l + 1 => by rw [foldTL, List.length_append, foldTL_len d e x j p l]; rfl
theorem foldTL_at (d e : Int) (x : List Int) (j : Nat) (p : List Int) : ∀ (n l : Nat), l < n → (foldTL d e x j p n).getD l [] = if j / 2 ^ l % 2 = 1 then aboveT d e (l + 1) (segL p l) (foldL d e x j p l) else aboveT d e (l + 1) (foldL d e x j p l) (segL p l)
  | 0, l, h => by omega
  | n + 1, l, h => by
    rw [foldTL]
    by_cases hl : l < n
    · rw [List.getD_eq_getElem?_getD, List.getElem?_append_left (by rw [foldTL_len]; exact hl), ← List.getD_eq_getElem?_getD]
      exact foldTL_at d e x j p n l hl
    · have : l = n := by omega
      subst this
      rw [List.getD_eq_getElem?_getD, List.getElem?_append_right (by rw [foldTL_len]; omega), foldTL_len, Nat.sub_self]
      rfl
theorem aboveT_inj {d e v : Int} {x y x' y' : List Int} (hx : x.length = 16) (hx' : x'.length = 16) (h : aboveT d e v x y = aboveT d e v x' y') : x = x' ∧ y = y' := by
  unfold aboveT at h
  simp only [List.cons.injEq, true_and, List.append_assoc] at h
  have h1 := List.append_cancel_left h
  exact List.append_inj h1 (by omega)
/-- What is summed below is summed for the whole. -/
theorem nodeGT_sub (d e : Int) (L : List Int) : ∀ (c l q : Nat) (t : List Int), q < 2 ^ c → t ∈ nodeGT d e L l q → t ∈ nodeGT d e L (l + c) 0
  | 0, l, q, t, hq, h => by
    have : q = 0 := by simpa using hq
    subst this
    exact h
  | c + 1, l, q, t, hq, h => by
    have h2 : q / 2 < 2 ^ c := by rw [Nat.pow_succ] at hq; omega
    have h3 := nodeGT_sub d e L c (l + 1) (q / 2) t h2 (by
      rw [nodeGT]
      by_cases hp : q % 2 = 0
      · have e1 : 2 * (q / 2) = q := by omega
        rw [e1]
        exact List.mem_append_left _ (List.mem_append_left _ h)
      · have e1 : 2 * (q / 2) + 1 = q := by omega
        rw [e1]
        exact List.mem_append_left _ (List.mem_append_right _ h))
    rw [show l + (c + 1) = l + 1 + c by omega]
    exact h3
theorem groveSound_step (d e : Int) (L xl : List Int) (k j : Nat) (p : List Int) (hL : L.length = 2 ^ k * 16) (hxl : xl.length = 16) (hp : p.length = k * 16) (hj : j < 2 ^ k) : ∀ l, l ≤ k → foldL d e xl j p l = nodeG d e L l (j / 2 ^ l) →
    (xl = segL L j ∧ ∀ l', l' < l → segL p l' = nodeG d e L l' (besI j l')) ∨ ClashP (nodeGT d e L k 0) (foldTL d e xl j p k)
  | 0, _, h => by
    refine .inl ⟨?_, fun l' h' => by omega⟩
    simpa [foldL, nodeG] using h
  | l + 1, hl, h => by
    have hd : j / 2 ^ (l + 1) = j / 2 ^ l / 2 := by rw [Nat.pow_succ, Nat.div_div_eq_div_mul]
    have hq : j / 2 ^ l / 2 < 2 ^ (k - (l + 1)) := by
      rw [← hd, Nat.div_lt_iff_lt_mul (Nat.pow_pos (by decide)), ← Nat.pow_add, Nat.sub_add_cancel (by omega)]
      exact hj
    have hmem : aboveT d e (l + 1) (nodeG d e L l (2 * (j / 2 ^ l / 2))) (nodeG d e L l (2 * (j / 2 ^ l / 2) + 1)) ∈ nodeGT d e L k 0 := by
      have h1 := nodeGT_sub d e L (k - (l + 1)) (l + 1) (j / 2 ^ l / 2) (aboveT d e (l + 1) (nodeG d e L l (2 * (j / 2 ^ l / 2))) (nodeG d e L l (2 * (j / 2 ^ l / 2) + 1))) hq (by
        rw [nodeGT]
        exact List.mem_append_right _ (List.mem_singleton.2 rfl))
      rw [show l + 1 + (k - (l + 1)) = k by omega] at h1
      exact h1
    have hat := foldTL_at d e xl j p k l (by omega)
    have hlen : l < (foldTL d e xl j p k).length := by rw [foldTL_len]; omega
    have hyl := foldL_len d e xl j p hxl l
    have hzl : (segL p l).length = 16 := segL_len hp (by omega)
    have hb1 := below_pow hj (Nat.le_of_succ_le hl)
    have hb2 := beside_pow hj hl
    have hle : (2 * (j / 2 ^ l / 2) + 1) * 2 ^ l ≤ 2 ^ k := by
      refine Nat.le_trans (Nat.mul_le_mul_right _ ?_) hb1
      omega
    have hn1 := nodeG_len (d := d) (e := e) hL l (2 * (j / 2 ^ l / 2)) hle
    rw [foldL, hd] at h
    have hn : nodeG d e L (l + 1) (j / 2 ^ l / 2) = shortL (aboveT d e (l + 1) (nodeG d e L l (2 * (j / 2 ^ l / 2))) (nodeG d e L l (2 * (j / 2 ^ l / 2) + 1))) := rfl
    rw [hn] at h
    clear hb1 hb2 hle hq hd
    by_cases hpar : j / 2 ^ l % 2 = 1
    · rw [if_pos hpar] at h hat
      by_cases heq : aboveT d e (l + 1) (nodeG d e L l (2 * (j / 2 ^ l / 2))) (nodeG d e L l (2 * (j / 2 ^ l / 2) + 1)) = aboveT d e (l + 1) (segL p l) (foldL d e xl j p l)
      · obtain ⟨h1, h2⟩ := aboveT_inj hn1 hzl heq
        have e1 : 2 * (j / 2 ^ l / 2) + 1 = j / 2 ^ l := by omega
        have e2 : 2 * (j / 2 ^ l / 2) = besI j l := by unfold besI; rw [if_pos hpar]; omega
        rw [e1] at h2
        rw [e2] at h1
        rcases groveSound_step d e L xl k j p hL hxl hp hj l (by omega) h2.symm with ⟨g1, g2⟩ | g
        · refine .inl ⟨g1, fun l' hl' => ?_⟩
          rcases Nat.lt_succ_iff_lt_or_eq.1 hl' with h' | h'
          · exact g2 l' h'
          · subst h'; exact h1.symm
        · exact .inr g
      · exact .inr (clash_of_mem hmem hlen (by rw [hat]; exact h.symm) (by rw [hat]; exact heq))
    · rw [if_neg hpar] at h hat
      by_cases heq : aboveT d e (l + 1) (nodeG d e L l (2 * (j / 2 ^ l / 2))) (nodeG d e L l (2 * (j / 2 ^ l / 2) + 1)) = aboveT d e (l + 1) (foldL d e xl j p l) (segL p l)
      · obtain ⟨h1, h2⟩ := aboveT_inj hn1 hyl heq
        have e1 : 2 * (j / 2 ^ l / 2) = j / 2 ^ l := by omega
        have e2 : 2 * (j / 2 ^ l / 2) + 1 = besI j l := by unfold besI; rw [if_neg hpar]; omega
        rw [e1] at h1
        rw [e2] at h2
        rcases groveSound_step d e L xl k j p hL hxl hp hj l (by omega) h1.symm with ⟨g1, g2⟩ | g
        · refine .inl ⟨g1, fun l' hl' => ?_⟩
          rcases Nat.lt_succ_iff_lt_or_eq.1 hl' with h' | h'
          · exact g2 l' h'
          · subst h'; exact h2.symm
        · exact .inr g
      · exact .inr (clash_of_mem hmem hlen (by rw [hat]; exact h.symm) (by rw [hat]; exact heq))
/-- Whatever leaf and path lead to the root: they are the tree's own, or two unlike texts have one sum. -/
theorem grove_sound (d e : Int) (L xl : List Int) (k j : Nat) (p : List Int) (hL : L.length = 2 ^ k * 16) (hxl : xl.length = 16) (hp : p.length = k * 16) (hj : j < 2 ^ k) (h : foldL d e xl j p k = nodeG d e L k 0) :
    (xl = segL L j ∧ p = pathG d e L k j) ∨ ClashP (nodeGT d e L k 0) (foldTL d e xl j p k) := by
  have h0 : j / 2 ^ k = 0 := Nat.div_eq_of_lt hj
  rcases groveSound_step d e L xl k j p hL hxl hp hj k (Nat.le_refl _) (by rw [h0]; exact h) with ⟨h1, h2⟩ | g
  · refine .inl ⟨h1, ?_⟩
    have e1 := rowsL_segs p k (by omega)
    rw [List.take_of_length_le (by omega)] at e1
    rw [← e1]
    exact rowsL_congr k fun i hi => h2 i hi
  · exact .inr g
end Go.Proofs.YtahmioiefmheeaaDoor

namespace Go.Proofs.YtahmioiefmheeaaDoor
open Go.RowKit

theorem results_rfold {w : World} {g : Nat} {z : List Int} {q : Int} {v : Value} {tmps : Array Value} (h8 : tmps.getD 10 undef = .pointer (some ⟨g, 0, none⟩)) (h9 : tmps.getD 11 undef = v) (h10 : tmps.getD 12 undef = .int .i64 q) (hr : Row w g 32 .u8 z) (hz : z.length = 16) :
    (results Tryd.f69 tmps).run Tryd.prog w = .ok (.tuple #[dgV z, v, .int .i64 q]) w :=
  results_row_tmp2 rfl _ _ g 32 _ (0, 0) _ _ _ h8 h9 h10 hr Tryd.underlying32 rfl (cells49 hz)
set_option maxRecDepth 100000 in
set_option maxHeartbeats 8000000 in
theorem rfold_any (d e i : Int) (x : List Int) (a : Option Addr) (n cap : Nat) (p : List Int) (w : World) (he : 0 ≤ e ∧ e < 4294967296) (hx : x.length = 16) (hxb : Bytes x) (hp : HoldsS w (.slice a n cap) n p) :
    Calls Tryd.prog 69 #[.int .i64 d, .int .u32 e, .int .i64 i, dgV x, .slice a n cap] w fun q w' => ∃ v, q = .returned (.tuple #[dgV (foldS d e x i p n), v, .int .i64 (foldF i n)]) ∧ HoldsP w' v (foldT d e x i p n) ∧ FreshS w w' v ∧ Below w.heap.size w w' := by
  have HE := Kp.mk he
  have HX := Kp.mk hx
  have HXB := Kp.mk hxb
  have HP := Kp.mk hp
  have HPl : Kp (p.length = n * 16 ∧ Bytes p) := ⟨by obtain ⟨_, _, _, h1, _, h2, _⟩ := hp; exact ⟨h1, h2⟩⟩
  clear he hx hxb hp
  obtain ⟨A, hA⟩ : ∃ A, A = w.heap.size := ⟨_, rfl⟩
  have HA := Kp.mk hA
  have HZ0 : Kp ((fill 16 [] : List Int).length = 16) := ⟨rfl⟩
  by_cases h0 : i < 0
  · have HU : Kp (foldS d e x i p n = fill 16 [] ∧ foldF i n = 1 ∧ foldT d e x i p n = []) := ⟨by
      have : foldOk i n = false := by simp [foldOk]; omega
      simp [foldS, foldF, foldT, this]⟩
    go_enter Tryd.func69, Tryd.ntmps69
    go_wp2_with fail
    exact bodyPost_ret (results_rfold (g := w.heap.size + 1) (v := .slice none 0 0) rfl rfl rfl (show Row _ (w.heap.size + 1) 32 .u8 (fill 16 []) from Blk.newAt _ (by simp)) HZ0.out) rfl ⟨_, by rw [HU.out.1, HU.out.2.1], by rw [HU.out.2.2]; exact HoldsP.nil _, FreshS.none _ _, more (more (Below.refl _ _) _) _⟩
  by_cases h1 : 6 < n
  · have HU : Kp (foldS d e x i p n = fill 16 [] ∧ foldF i n = 1 ∧ foldT d e x i p n = []) := ⟨by
      have : foldOk i n = false := by simp [foldOk]; omega
      simp [foldS, foldF, foldT, this]⟩
    have h2 : 0 ≤ i := by omega
    have h3 : (6 : Int) < (n : Int) := by omega
    go_enter Tryd.func69, Tryd.ntmps69
    go_wp2_with fail
    exact bodyPost_ret (results_rfold (g := w.heap.size + 1) (v := .slice none 0 0) rfl rfl rfl (show Row _ (w.heap.size + 1) 32 .u8 (fill 16 []) from Blk.newAt _ (by simp)) HZ0.out) rfl ⟨_, by rw [HU.out.1, HU.out.2.1], by rw [HU.out.2.2]; exact HoldsP.nil _, FreshS.none _ _, more (more (Below.refl _ _) _) _⟩
  obtain ⟨j, rfl⟩ : ∃ j : Nat, i = j := ⟨i.toNat, by omega⟩
  have hn6 : n ≤ 6 := by omega
  have t0 : decide ((j : Int) < 0) = false := by simp
  have t6 : decide ((6 : Int) < (n : Int)) = false := by simp; omega
  clear h0 h1
  go_enter Tryd.func69, Tryd.ntmps69
  go_wp2_with fail
  rw [← hA]
  refine wp_world (fun W => Row W A 32 .u8 x ∧ Row W (A + 1) 32 .u8 (fill 16 []) ∧ Below A w W) ⟨Blk.old (Blk.newAt _ hA) _, Blk.newAt _ (by rw [hA]; simp), by rw [hA]; exact more (more (Below.refl _ _) _) _⟩ ?_
  clear hA t0 t6
  rintro W ⟨g1, g2, g3⟩
  have G2 := Kp.mk g1
  have G3 := Kp.mk g2
  have G4 := Kp.mk g3
  clear g1 g2 g3
  go_loopw [13, 14] (fun m c wr => ∃ k q : Nat, k ≤ n ∧ c = .int .i64 k ∧ m = .int .i64 q ∧ Kp (q = 2 ^ k) ∧ wr = W) (fun _ c _ => n - (intOf c).toNat)
  case atStart => exact ⟨0, 1, by omega, rfl, rfl, ⟨rfl⟩, rfl⟩
  case round =>
    obtain ⟨k, m, hk, rfl, rfl, HM, rfl⟩ := hrel
    have hm64 : m ≤ 64 := by
      rw [HM.out]
      have h2 : k = 0 ∨ k = 1 ∨ k = 2 ∨ k = 3 ∨ k = 4 ∨ k = 5 ∨ k = 6 := by omega
      rcases h2 with rfl | rfl | rfl | rfl | rfl | rfl | rfl <;> decide
    by_cases hkn : k < n
    · have HM2 : Kp (2 * m = 2 ^ (k + 1)) := ⟨by rw [HM.out, Nat.pow_succ, Nat.mul_comm]⟩
      go_wp2_with fail
      exact ⟨⟨k + 1, 2 * m, by omega, by go_num, by go_num, HM2, by trivial⟩, by simp [intOf]; omega⟩
    · have hkn' : k = n := by omega
      have HMn : Kp (m = 2 ^ n) := ⟨by rw [HM.out, hkn']⟩
      clear HM
      by_cases hjm : m ≤ j
      · have HU : Kp (foldS d e x j p n = fill 16 [] ∧ foldF j n = 1 ∧ foldT d e x j p n = []) := ⟨by
          have h3 := HMn.out
          have : foldOk j n = false := by
            have h4 : ((2 ^ n : Nat) : Int) ≤ (j : Int) := by rw [← h3]; omega
            have h5 : ((2 ^ n : Nat) : Int) = (2 : Int) ^ n := by simp
            rw [h5] at h4
            simp [foldOk]; omega
          simp [foldS, foldF, foldT, this]⟩
        have HF0 := Kp.mk (G3.out.setRow (fill 16 []))
        have HB0 := Kp.mk (Below.row G4.out (g := A + 1) (by omega) (kv .u8 (fill 16 [])).toArray)
        have hge : ¬ (k : Int) < (n : Int) := by omega
        go_wp2_with (refine wpList_store_row rfl 32 (.tmp 10) (.tmp 37) rfl (A + 1) (kv .u8 (fill 16 [])).toArray rfl rfl 32 _ G3.out (cells49 HZ0.out) (size50 HZ0.out) (kv_all _ _) ?_)
        exact bodyPost_ret (results_rfold (v := .slice none 0 0) rfl rfl rfl HF0.out HZ0.out) rfl ⟨_, by rw [HU.out.1, HU.out.2.1], by rw [HU.out.2.2]; exact HoldsP.nil _, FreshS.none _ _, by rw [← HA.out]; exact HB0.out⟩
      · have HJ : Kp (j < 2 ^ n) := ⟨by rw [← HMn.out]; omega⟩
        have HU : Kp (foldS d e x j p n = foldL d e x j p n ∧ foldF j n = 0 ∧ foldT d e x j p n = foldTL d e x j p n) := ⟨by
          have h1 := HJ.out
          have : foldOk j n = true := by
            have h5 : ((2 ^ n : Nat) : Int) = (2 : Int) ^ n := by simp
            have h4 : (j : Int) < (2 : Int) ^ n := by rw [← h5]; omega
            simp [foldOk]; omega
          simp only [foldS, foldF, foldT, this, if_true, Int.toNat_natCast, and_self]⟩
        have hj64 : j < 64 := by omega
        have hge : ¬ (k : Int) < (n : Int) := by omega
        obtain ⟨K0, hK⟩ : ∃ K, K = wr.heap.size := ⟨_, rfl⟩
        have hKA : A + 1 < K0 := by rw [hK]; exact G3.out.lt
        have HK0 := Kp.mk hK
        clear hK hkn
        go_wp2_with fail
        clear hge hjm hkn' hk hm64 HMn
        obtain ⟨w0, hw0⟩ : ∃ w0, w0 = wr := ⟨_, rfl⟩
        rw [← hw0] at G2 G3 G4 HK0
        rw [← hw0]
        clear hw0
        go_loopw [2, 15, 16] (fun i3 v c ws => ∃ l q : Nat, l ≤ n ∧ c = .int .i64 l ∧ i3 = .int .i64 q ∧ Kp (q = j / 2 ^ l) ∧ Kp (TextsO ws K0 v (foldTL d e x j p l)) ∧ Kp (Row ws A 32 .u8 (foldL d e x j p l)) ∧ Kp (Row ws (A + 1) 32 .u8 (fill 16 [])) ∧ Kp (Below A w ws) ∧ Kp (K0 ≤ ws.heap.size)) (fun _ _ c _ => n - (intOf c).toNat)
        case atStart => exact ⟨0, j, by omega, rfl, rfl, ⟨by simp⟩, ⟨TextsO.nil _ _⟩, G2, G3, G4, ⟨Nat.le_of_eq HK0.out⟩⟩
        case round =>
          obtain ⟨l, q, hl, rfl, rfl, HQ, E5, E2, E3, E4, E6⟩ := hrel
          clear G2 G3 G4
          have HYl := Kp.mk (foldL_len d e x j p HX.out l)
          have HYb := Kp.mk (foldL_bytes d e x j p HXB.out l)
          have HTS := Kp.mk (foldTL_len d e x j p l)
          obtain ⟨y, hy⟩ : ∃ y, y = foldL d e x j p l := ⟨_, rfl⟩
          obtain ⟨ts, hts⟩ : ∃ ts, ts = foldTL d e x j p l := ⟨_, rfl⟩
          rw [← hy] at E2 HYl HYb
          rw [← hts] at E5 HTS
          have HYe := Kp.mk hy
          have HTSe := Kp.mk hts
          clear hy hts
          by_cases hlt : l < n
          · obtain ⟨b, off, rfl, hbl, hrange⟩ := (HP.out.keep (by rw [← HA.out]; exact E4.out)).range hlt
            have HZl := Kp.mk (segL_len HPl.out.1 hlt)
            have HZb := Kp.mk (HPl.out.2.seg l)
            obtain ⟨z, hz⟩ : ∃ z, z = segL p l := ⟨_, rfl⟩
            rw [← hz] at HZl HZb hrange
            have HZe := Kp.mk hz
            have HR : Kp (wr.rangeAt b (off + l * 16) (kv .u8 z) ∧ b < wr.heap.size) := ⟨hrange, hbl⟩
            have hq8 : q < 64 := by rw [HQ.out]; exact Nat.lt_of_le_of_lt (Nat.div_le_self _ _) hj64
            have HQn : Kp (q / 2 = j / 2 ^ (l + 1)) := ⟨by rw [HQ.out, Nat.pow_succ, Nat.div_div_eq_div_mul]⟩
            have hq2 : (q : Int).tdiv 2 = ((q / 2 : Nat) : Int) := by rw [Int.tdiv_eq_ediv_of_nonneg (by omega)]; omega
            obtain ⟨H0, hH0⟩ : ∃ H, H = wr.heap.size := ⟨_, rfl⟩
            have HH0 : Kp (H0 ≤ wr.heap.size) := ⟨Nat.le_of_eq hH0⟩
            have HKH : Kp (K0 ≤ H0) := ⟨by rw [hH0]; exact E6.out⟩
            have HOB : Kp (∀ g, u15.ownBlock = some g → g < H0) := ⟨fun g hg => by obtain ⟨vs, k1, _⟩ := E5.out; rw [hH0]; exact (k1.lt g hg).2⟩
            clear hz hbl hrange hH0
            go_wp2_with fail
            refine wp_region_pred (fun w' => Row w' A 32 .u8 y ∧ Row w' (A + 1) 32 .u8 (fill 16 []) ∧ (w'.rangeAt b (off + l * 16) (kv .u8 z) ∧ b < w'.heap.size) ∧ TextsO w' K0 u15 ts ∧ H0 ≤ w'.heap.size ∧ Below A w w') [0, 1, 2, 3, 4, 5, 6, 7, 8, 9] [10]
              (fun ι w' v => match ι with
                | 0 => v = .int .i64 d
                | 1 => v = .int .u32 e
                | 2 | 6 => v = .int .i64 l
                | 3 => v = .int .i64 ((l : Int) + 1)
                | 4 => v = dgV y
                | 5 => v = .slice (some ⟨b, off, none⟩) n cap
                | 7 => v = .pointer (some ⟨b, off + l * 16, none⟩)
                | 8 => v = dgV z
                | 9 => HoldsB w' w'.heap.size v (aboveT d e ((l : Int) + 1) y z) ∧ ∀ g, v.ownBlock = some g → H0 ≤ g
                | _ => v = .bool true)
              [[], [], [], [(2, some 46)], [], [], [], [(5, some 49), (6, some 50)], [(7, some 51)], [(0, some 44), (1, some 45), (3, some 47), (4, some 48), (8, some 52)]]
              [(0, some 44), (1, some 45), (2, some 46), (3, some 47), (4, some 48), (5, some 49), (6, some 50), (7, some 51), (8, some 52), (9, some 53)]
              (by kernel_rfl) (by kernel_rfl) (by kernel_rfl) (by kernel_rfl) (by kernel_rfl) (by kernel_rfl) (by decide) (by decide) (fun w1 w2 h hb => ⟨h.1.keep hb, h.2.1.keep hb, ⟨fun j' v' hv' => (hb.cell (p := ⟨b, off + l * 16 + j', none⟩) h.2.2.1.2).trans (h.2.2.1.1 j' v' hv'), Nat.lt_of_lt_of_le h.2.2.1.2 hb.size⟩, h.2.2.2.1.below hb, Nat.le_trans h.2.2.2.2.1 hb.size, h.2.2.2.2.2.trans (hb.mono (Nat.le_of_lt h.1.lt))⟩) ?_ ⟨E2.out.drew, E3.out.drew, HR.out, E5.out.drew, HH0.out, E4.out.drew⟩ ?_ ?_
            · intro ι w1 w2 v h hb
              by_cases h9 : ι = 9
              · subst h9
                exact ⟨(HoldsB.keep h.1 hb).mono hb.size, h.2⟩
              match ι, h9, h with
              | 0, _, h => exact h
              | 1, _, h => exact h
              | 2, _, h => exact h
              | 3, _, h => exact h
              | 4, _, h => exact h
              | 5, _, h => exact h
              | 6, _, h => exact h
              | 7, _, h => exact h
              | 8, _, h => exact h
              | 9, g, h => exact absurd rfl g
              | _ + 10, _, h => exact h
            · refine ⟨fun γ wx hS h => ?_, fun γ wx hS h => ?_, fun γ wx hS h => ?_, fun γ wx hS h => ?_, fun γ wx hS h => ?_, fun γ wx hS h => ?_, fun γ wx hS h => ?_, fun γ wx hS h => ?_, fun γ wx hS h => ?_, fun γ wx hS h => ?_, trivial⟩
              · refine ⟨_, rfl, Or.inl ⟨rfl, predRun_value (v := .int .i64 d) (by simp only [putE]; first | rfl | (go_simp; done) | (go_simp; with_reducible rfl) | (go_simp; rfl)) rfl⟩⟩
              · refine ⟨_, rfl, Or.inl ⟨rfl, predRun_value (v := .int .u32 e) (by simp only [putE]; first | rfl | (go_simp; done) | (go_simp; with_reducible rfl) | (go_simp; rfl)) rfl⟩⟩
              · refine ⟨_, rfl, Or.inl ⟨rfl, predRun_value (v := .int .i64 l) (by simp only [putE]; first | rfl | (go_simp; done) | (go_simp; with_reducible rfl) | (go_simp; rfl)) rfl⟩⟩
              · have h2 := h
                have e2 : γ 2 = .int .i64 l := h2
                refine ⟨_, rfl, Or.inl ⟨rfl, predRun_value (v := .int .i64 ((l : Int) + 1)) (by simp only [putE, e2]; have e1 : IntKind.i64.wrap ((l : Int) + 1) = (l : Int) + 1 := IntWalk.i64_in _ (by omega); first | rfl | (go_simp; done) | (go_simp; with_reducible rfl) | (go_simp; rfl)) rfl⟩⟩
              · refine ⟨_, rfl, Or.inl ⟨rfl, predRun_value (exec_load_blk 32 (.tmp 8) rfl (A) rfl 32 _ (0, 0) _ hS.1 Tryd.underlying32 rfl (cells49 HYl.out)) rfl⟩⟩
              · refine ⟨_, rfl, Or.inl ⟨rfl, predRun_value (v := .slice (some ⟨b, off, none⟩) n cap) (by simp only [putE]; first | rfl | (go_simp; done) | (go_simp; with_reducible rfl) | (go_simp; rfl)) rfl⟩⟩
              · refine ⟨_, rfl, Or.inl ⟨rfl, predRun_value (v := .int .i64 l) (by simp only [putE]; first | rfl | (go_simp; done) | (go_simp; with_reducible rfl) | (go_simp; rfl)) rfl⟩⟩
              · obtain ⟨h5, h6⟩ := h
                have e5 : γ 5 = .slice (some ⟨b, off, none⟩) n cap := h5
                have e6 : γ 6 = .int .i64 l := h6
                refine ⟨_, rfl, Or.inl ⟨rfl, predRun_value (exec_idx65 (x := .tmp 49) (y := .tmp 50) (B := b) (o := off) (n := n) (cap := cap) (j := l) rfl (by simp only [putE, e5, e6, Act.put, List.setIfInBounds_toArray, List.set_cons_zero, List.set_cons_succ]; rfl) (by simp only [putE, e5, e6, Act.put, List.setIfInBounds_toArray, List.set_cons_zero, List.set_cons_succ]; rfl) rfl hlt) rfl⟩⟩
              · have h7 := h
                have e7 : γ 7 = .pointer (some ⟨b, off + l * 16, none⟩) := h7
                refine ⟨_, rfl, Or.inl ⟨rfl, predRun_value (exec_load_midS (b := b) (off := off + l * 16) (x := .tmp 51) (cs := kv .u8 z) rfl (by simp only [putE, e7, Act.put, List.setIfInBounds_toArray, List.set_cons_zero, List.set_cons_succ]; rfl) hS.2.2.1.1 Tryd.underlying32 rfl (cellsL32 HZl.out)) rfl⟩⟩
              · obtain ⟨h0, h1, h3, h4, h8⟩ := h
                have e0 : γ 0 = .int .i64 d := h0
                have e1 : γ 1 = .int .u32 e := h1
                have e3 : γ 3 = .int .i64 ((l : Int) + 1) := h3
                have e4 : γ 4 = dgV y := h4
                have e8 : γ 8 = dgV z := h8
                refine ⟨_, rfl, Or.inl ⟨rfl, predRun_call (f := 71) (args := #[.int .i64 d, .int .u32 e, .int .i64 ((l : Int) + 1), dgV y, dgV z]) (by simp only [putE, e0, e1, e3, e4, e8]; go_simp) ?_⟩⟩
                exact (rtextG_any d e ((l : Int) + 1) y z wx HE.out HYl.out HYb.out HZl.out HZb.out).mono fun e w2 ⟨v', h1, h2, h3, h4⟩ => ⟨_, h1, ⟨h2, fun g hg => Nat.le_trans hS.2.2.2.2.1 (h3 g hg)⟩, h4⟩
            · intro γ w9 hS h
              obtain ⟨p7, f7⟩ : HoldsB w9 w9.heap.size (γ 9) (aboveT d e ((l : Int) + 1) y z) ∧ ∀ g, (γ 9).ownBlock = some g → H0 ≤ g := h.2.2.2.2.2.2.2.2.2
              have E2' := Kp.mk hS.1
              have E3' := Kp.mk hS.2.1
              have HR' := Kp.mk hS.2.2.1
              have E5' := Kp.mk hS.2.2.2.1
              have HH0' := Kp.mk hS.2.2.2.2.1
              have E4' := Kp.mk hS.2.2.2.2.2
              simp only [putE, Act.put, List.setIfInBounds_toArray, List.set_cons_zero, List.set_cons_succ]
              clear h hS E2 E3 E4 E5 HR HH0
              obtain ⟨a1, n1, c1, e7, -⟩ := p7.slice
              rw [e7] at p7 f7 ⊢
              clear e7
              have HT := Kp.mk p7
              have HFr := Kp.mk f7
              clear p7 f7
              refine wpOps_step rfl rfl ?_
              refine wp_assign_endD (d := some 17) (v := .slice a1 n1 c1) rfl rfl rfl ?_
              simp only [Act.put, List.setIfInBounds_toArray, List.set_cons_zero, List.set_cons_succ]
              refine wpOps_done ?_
              by_cases hpar : q % 2 = 1
              · have ht : (q : Int).tmod 2 = 1 := by rw [Int.tmod_eq_emod_of_nonneg (by omega)]; omega
                have HPar : Kp (j / 2 ^ l % 2 = 1) := ⟨by rw [← HQ.out]; omega⟩
                go_wp2_with fail
                clear ht
                have E2 := E2'
                have E3 := E3'
                have E4 := E4'
                have E5 := E5'
                have HR := HR'
                have HH0 := HH0'
                clear E2' E3' E4' E5' HR' HH0' HT HFr
                refine wp_region_pred (fun w' => Row w' A 32 .u8 y ∧ Row w' (A + 1) 32 .u8 (fill 16 []) ∧ (w'.rangeAt b (off + l * 16) (kv .u8 z) ∧ b < w'.heap.size) ∧ TextsO w' K0 u15 ts ∧ H0 ≤ w'.heap.size ∧ Below A w w') [0, 1, 2, 3, 4, 5, 6, 7, 8, 9] [10]
                  (fun ι w' v => match ι with
                    | 0 => v = .int .i64 d
                    | 1 => v = .int .u32 e
                    | 2 | 5 => v = .int .i64 l
                    | 3 => v = .int .i64 ((l : Int) + 1)
                    | 4 => v = .slice (some ⟨b, off, none⟩) n cap
                    | 6 => v = .pointer (some ⟨b, off + l * 16, none⟩)
                    | 7 => v = dgV z
                    | 8 => v = dgV y
                    | 9 => HoldsB w' w'.heap.size v (aboveT d e ((l : Int) + 1) z y) ∧ ∀ g, v.ownBlock = some g → H0 ≤ g
                    | _ => v = .bool true)
                  [[], [], [], [(2, some 59)], [], [], [(4, some 61), (5, some 62)], [(6, some 63)], [], [(0, some 57), (1, some 58), (3, some 60), (7, some 64), (8, some 65)]]
                  [(0, some 57), (1, some 58), (2, some 59), (3, some 60), (4, some 61), (5, some 62), (6, some 63), (7, some 64), (8, some 65), (9, some 66)]
                  (by kernel_rfl) (by kernel_rfl) (by kernel_rfl) (by kernel_rfl) (by kernel_rfl) (by kernel_rfl) (by decide) (by decide) (fun w1 w2 h hb => ⟨h.1.keep hb, h.2.1.keep hb, ⟨fun j' v' hv' => (hb.cell (p := ⟨b, off + l * 16 + j', none⟩) h.2.2.1.2).trans (h.2.2.1.1 j' v' hv'), Nat.lt_of_lt_of_le h.2.2.1.2 hb.size⟩, h.2.2.2.1.below hb, Nat.le_trans h.2.2.2.2.1 hb.size, h.2.2.2.2.2.trans (hb.mono (Nat.le_of_lt h.1.lt))⟩) ?_ ⟨E2.out.drew, E3.out.drew, HR.out, E5.out.drew, HH0.out, E4.out.drew⟩ ?_ ?_
                · intro ι w1 w2 v h hb
                  by_cases h9 : ι = 9
                  · subst h9
                    exact ⟨(HoldsB.keep h.1 hb).mono hb.size, h.2⟩
                  match ι, h9, h with
                  | 0, _, h => exact h
                  | 1, _, h => exact h
                  | 2, _, h => exact h
                  | 3, _, h => exact h
                  | 4, _, h => exact h
                  | 5, _, h => exact h
                  | 6, _, h => exact h
                  | 7, _, h => exact h
                  | 8, _, h => exact h
                  | 9, g, h => exact absurd rfl g
                  | _ + 10, _, h => exact h
                · refine ⟨fun γ wx hS h => ?_, fun γ wx hS h => ?_, fun γ wx hS h => ?_, fun γ wx hS h => ?_, fun γ wx hS h => ?_, fun γ wx hS h => ?_, fun γ wx hS h => ?_, fun γ wx hS h => ?_, fun γ wx hS h => ?_, fun γ wx hS h => ?_, trivial⟩
                  · refine ⟨_, rfl, Or.inl ⟨rfl, predRun_value (v := .int .i64 d) (by simp only [putE]; first | rfl | (go_simp; done) | (go_simp; with_reducible rfl) | (go_simp; rfl)) rfl⟩⟩
                  · refine ⟨_, rfl, Or.inl ⟨rfl, predRun_value (v := .int .u32 e) (by simp only [putE]; first | rfl | (go_simp; done) | (go_simp; with_reducible rfl) | (go_simp; rfl)) rfl⟩⟩
                  · refine ⟨_, rfl, Or.inl ⟨rfl, predRun_value (v := .int .i64 l) (by simp only [putE]; first | rfl | (go_simp; done) | (go_simp; with_reducible rfl) | (go_simp; rfl)) rfl⟩⟩
                  · have h2 := h
                    have e2 : γ 2 = .int .i64 l := h2
                    refine ⟨_, rfl, Or.inl ⟨rfl, predRun_value (v := .int .i64 ((l : Int) + 1)) (by simp only [putE, e2]; have e1 : IntKind.i64.wrap ((l : Int) + 1) = (l : Int) + 1 := IntWalk.i64_in _ (by omega); first | rfl | (go_simp; done) | (go_simp; with_reducible rfl) | (go_simp; rfl)) rfl⟩⟩
                  · refine ⟨_, rfl, Or.inl ⟨rfl, predRun_value (v := .slice (some ⟨b, off, none⟩) n cap) (by simp only [putE]; first | rfl | (go_simp; done) | (go_simp; with_reducible rfl) | (go_simp; rfl)) rfl⟩⟩
                  · refine ⟨_, rfl, Or.inl ⟨rfl, predRun_value (v := .int .i64 l) (by simp only [putE]; first | rfl | (go_simp; done) | (go_simp; with_reducible rfl) | (go_simp; rfl)) rfl⟩⟩
                  · obtain ⟨h4, h5⟩ := h
                    have e4 : γ 4 = .slice (some ⟨b, off, none⟩) n cap := h4
                    have e5 : γ 5 = .int .i64 l := h5
                    refine ⟨_, rfl, Or.inl ⟨rfl, predRun_value (exec_idx65 (x := .tmp 61) (y := .tmp 62) (B := b) (o := off) (n := n) (cap := cap) (j := l) rfl (by simp only [putE, e4, e5, Act.put, List.setIfInBounds_toArray, List.set_cons_zero, List.set_cons_succ]; rfl) (by simp only [putE, e4, e5, Act.put, List.setIfInBounds_toArray, List.set_cons_zero, List.set_cons_succ]; rfl) rfl hlt) rfl⟩⟩
                  · have h6 := h
                    have e6 : γ 6 = .pointer (some ⟨b, off + l * 16, none⟩) := h6
                    refine ⟨_, rfl, Or.inl ⟨rfl, predRun_value (exec_load_midS (b := b) (off := off + l * 16) (x := .tmp 63) (cs := kv .u8 z) rfl (by simp only [putE, e6, Act.put, List.setIfInBounds_toArray, List.set_cons_zero, List.set_cons_succ]; rfl) hS.2.2.1.1 Tryd.underlying32 rfl (cellsL32 HZl.out)) rfl⟩⟩
                  · refine ⟨_, rfl, Or.inl ⟨rfl, predRun_value (exec_load_blk 32 (.tmp 8) rfl (A) rfl 32 _ (0, 0) _ hS.1 Tryd.underlying32 rfl (cells49 HYl.out)) rfl⟩⟩
                  · obtain ⟨h0, h1, h3, h7, h8⟩ := h
                    have e0 : γ 0 = .int .i64 d := h0
                    have e1 : γ 1 = .int .u32 e := h1
                    have e3 : γ 3 = .int .i64 ((l : Int) + 1) := h3
                    have e7 : γ 7 = dgV z := h7
                    have e8 : γ 8 = dgV y := h8
                    refine ⟨_, rfl, Or.inl ⟨rfl, predRun_call (f := 71) (args := #[.int .i64 d, .int .u32 e, .int .i64 ((l : Int) + 1), dgV z, dgV y]) (by simp only [putE, e0, e1, e3, e7, e8]; go_simp) ?_⟩⟩
                    exact (rtextG_any d e ((l : Int) + 1) z y wx HE.out HZl.out HZb.out HYl.out HYb.out).mono fun e w2 ⟨v', h1, h2, h3, h4⟩ => ⟨_, h1, ⟨h2, fun g hg => Nat.le_trans hS.2.2.2.2.1 (h3 g hg)⟩, h4⟩
                · intro γ w9 hS h
                  obtain ⟨p7, f7⟩ : HoldsB w9 w9.heap.size (γ 9) (aboveT d e ((l : Int) + 1) z y) ∧ ∀ g, (γ 9).ownBlock = some g → H0 ≤ g := h.2.2.2.2.2.2.2.2.2
                  have E2' := Kp.mk hS.1
                  have E3' := Kp.mk hS.2.1
                  have HR' := Kp.mk hS.2.2.1
                  have E5' := Kp.mk hS.2.2.2.1
                  have HH0' := Kp.mk hS.2.2.2.2.1
                  have E4' := Kp.mk hS.2.2.2.2.2
                  simp only [putE, Act.put, List.setIfInBounds_toArray, List.set_cons_zero, List.set_cons_succ]
                  clear h hS E2 E3 E4 E5 HR HH0
                  obtain ⟨a1, n1, c1, e7, -⟩ := p7.slice
                  rw [e7] at p7 f7 ⊢
                  clear e7
                  have HT := Kp.mk p7
                  have HFr := Kp.mk f7
                  clear p7 f7
                  refine wpOps_step rfl rfl ?_
                  refine wp_assign_endD (d := some 17) (v := .slice a1 n1 c1) rfl rfl rfl ?_
                  simp only [Act.put, List.setIfInBounds_toArray, List.set_cons_zero, List.set_cons_succ]
                  refine wpOps_done ?_
                  have hg15 : ∀ g, u15.ownBlock = some g → g < H0 := fun g hg => HOB.out g hg
                  have HNE : Kp (∀ x, a1 = some x → u15.ownBlock ≠ some x.block ∧ K0 ≤ x.block) := ⟨fun x hx => by
                    have h1 := HFr.out x.block (by rw [hx]; rfl)
                    exact ⟨fun e => by have := hg15 _ e; omega, by have := HKH.out; omega⟩⟩
                  have C1 : Kp (TextsO (w9.alloc (.cells #[.slice a1 n1 c1] 22)) K0 u15 ts) := ⟨E5'.out.below (more (Below.refl _ _) _)⟩
                  have C2 : Kp (HoldsB (w9.alloc (.cells #[.slice a1 n1 c1] 22)) (w9.alloc (.cells #[.slice a1 n1 c1] 22)).heap.size (.slice a1 n1 c1) (aboveT d e ((l : Int) + 1) z y)) := ⟨(HoldsB.keep HT.out (more (Below.refl _ _) _)).mono (by simp)⟩
                  have C3 : Kp ((w9.alloc (.cells #[.slice a1 n1 c1] 22)).cell? ⟨w9.heap.size, 0, none⟩ = some (.slice a1 n1 c1)) := ⟨(Blk.new w9 (.cells #[.slice a1 n1 c1] 22)).cell 0⟩
                  have C4 : Kp (K0 ≤ (w9.alloc (.cells #[.slice a1 n1 c1] 22)).heap.size) := ⟨by have := HH0'.out; have := HKH.out; simp; omega⟩
                  clear hg15
                  go_wp2_with (at_builtin; refine wpList_append_texto rfl _ _ rfl K0 u15 ts rfl C1.out w9.heap.size a1 n1 c1 (aboveT d e ((l : Int) + 1) z y) rfl C3.out C2.out HNE.out (by simp [aboveT]) (by have := HTS.out; omega) C4.out ?_)
                  intro v5 w5 k1 k2 k3
                  have D5 := Kp.mk k1
                  have DT := Kp.mk k2
                  have D2 : Kp (Row w5 A 32 .u8 y) := ⟨(k3.block A (by omega)).trans (Row.alloc E2'.out _)⟩
                  have D3 : Kp (Row w5 (A + 1) 32 .u8 (fill 16 [])) := ⟨(k3.block (A + 1) (by omega)).trans (Row.alloc E3'.out _)⟩
                  have D4 : Kp (Below A w w5) := ⟨(E4'.out.alloc (Nat.le_of_lt E2'.out.lt) _).trans (k3.mono (by omega))⟩
                  have D8 : Kp (K0 ≤ w5.heap.size) := ⟨by have := k3.size; have := C4.out; omega⟩
                  clear k1 k2 k3 C1 C2 C3 C4 E2' E3' E4' E5' HH0' HR' HT
                  go_wp2_with fail
                  refine (of_any _ _ 71 _ w5 DT.out (by simp [atL, be32_len, HYl.out, HZl.out])).mono ?_
                  rintro q1 w6 ⟨rfl, hb⟩
                  have F2 := Kp.mk (D2.out.keep hb)
                  have F3 := Kp.mk (D3.out.keep hb)
                  have F4 : Kp (Below A w w6) := ⟨D4.out.trans (hb.mono (Nat.le_of_lt D2.out.lt))⟩
                  have F5 := Kp.mk (D5.out.below hb)
                  have F8 : Kp (K0 ≤ w6.heap.size) := ⟨by have := hb.size; have := D8.out; omega⟩
                  clear hb D2 D3 D4 D5 DT
                  obtain ⟨u, hu⟩ : ∃ u, u = shortL (aboveT d e ((l : Int) + 1) z y) := ⟨_, rfl⟩
                  rw [show dgV (shortL (71 :: _)) = dgV (shortL (aboveT d e ((l : Int) + 1) z y)) from rfl, ← hu]
                  have HUl : Kp (u.length = 16) := ⟨by rw [hu]; exact shortL_len _⟩
                  have HUe : Kp (u = foldL d e x j p (l + 1)) := ⟨by rw [hu, foldL, if_pos HPar.out, ← HYe.out, ← HZe.out]⟩
                  have HTe : Kp (ts ++ [aboveT d e ((l : Int) + 1) z y] = foldTL d e x j p (l + 1)) := ⟨by rw [foldTL, if_pos HPar.out, ← HYe.out, ← HZe.out, ← HTSe.out]⟩
                  clear hu
                  have F6 : Kp (TextsO (w6.setRow A (kv .u8 u).toArray) K0 v5 (ts ++ [aboveT d e ((l : Int) + 1) z y])) := ⟨F5.out.set (by omega) _⟩
                  have F7 : Kp (Row (w6.setRow A (kv .u8 u).toArray) A 32 .u8 u) := ⟨F2.out.setRow u⟩
                  go_wp2_with (refine wpList_store_row rfl 32 (.tmp 8) (.tmp 72) rfl A (kv .u8 u).toArray rfl rfl 32 _ F2.out (cells49 HUl.out) (by rw [kv_size, kv_size, HYl.out, HUl.out]) (kv_all _ _) ?_)
                  exact ⟨⟨l + 1, q / 2, by omega, by go_num, by first | rfl | (congr 1; omega), HQn, ⟨by rw [← HTe.out]; exact F6.out⟩, ⟨by rw [← HUe.out]; exact F7.out⟩, ⟨Row.otherRow F3.out (by omega) _⟩, ⟨Below.row F4.out (by omega) _⟩, ⟨by simpa [World.setRow] using F8.out⟩⟩, by simp [intOf]; omega⟩
              · have ht : (q : Int).tmod 2 = 0 := by rw [Int.tmod_eq_emod_of_nonneg (by omega)]; omega
                have HPar : Kp (¬ j / 2 ^ l % 2 = 1) := ⟨by rw [← HQ.out]; omega⟩
                have hg15 : ∀ g, u15.ownBlock = some g → g < H0 := fun g hg => HOB.out g hg
                have HNE : Kp (∀ x, a1 = some x → u15.ownBlock ≠ some x.block ∧ K0 ≤ x.block) := ⟨fun x hx => by
                  have h1 := HFr.out x.block (by rw [hx]; rfl)
                  exact ⟨fun e => by have := hg15 _ e; omega, by have := HKH.out; omega⟩⟩
                have C1 : Kp (TextsO (w9.alloc (.cells #[.slice a1 n1 c1] 22)) K0 u15 ts) := ⟨E5'.out.below (more (Below.refl _ _) _)⟩
                have C2 : Kp (HoldsB (w9.alloc (.cells #[.slice a1 n1 c1] 22)) (w9.alloc (.cells #[.slice a1 n1 c1] 22)).heap.size (.slice a1 n1 c1) (aboveT d e ((l : Int) + 1) y z)) := ⟨(HoldsB.keep HT.out (more (Below.refl _ _) _)).mono (by simp)⟩
                have C3 : Kp ((w9.alloc (.cells #[.slice a1 n1 c1] 22)).cell? ⟨w9.heap.size, 0, none⟩ = some (.slice a1 n1 c1)) := ⟨(Blk.new w9 (.cells #[.slice a1 n1 c1] 22)).cell 0⟩
                have C4 : Kp (K0 ≤ (w9.alloc (.cells #[.slice a1 n1 c1] 22)).heap.size) := ⟨by have := HH0'.out; have := HKH.out; simp; omega⟩
                clear hg15
                go_wp2_with (at_builtin; refine wpList_append_texto rfl _ _ rfl K0 u15 ts rfl C1.out w9.heap.size a1 n1 c1 (aboveT d e ((l : Int) + 1) y z) rfl C3.out C2.out HNE.out (by simp [aboveT]) (by have := HTS.out; omega) C4.out ?_)
                intro v5 w5 k1 k2 k3
                have D5 := Kp.mk k1
                have DT := Kp.mk k2
                have D2 : Kp (Row w5 A 32 .u8 y) := ⟨(k3.block A (by omega)).trans (Row.alloc E2'.out _)⟩
                have D3 : Kp (Row w5 (A + 1) 32 .u8 (fill 16 [])) := ⟨(k3.block (A + 1) (by omega)).trans (Row.alloc E3'.out _)⟩
                have D4 : Kp (Below A w w5) := ⟨(E4'.out.alloc (Nat.le_of_lt E2'.out.lt) _).trans (k3.mono (by omega))⟩
                have D8 : Kp (K0 ≤ w5.heap.size) := ⟨by have := k3.size; have := C4.out; omega⟩
                clear k1 k2 k3 C1 C2 C3 C4 E2' E3' E4' E5' HH0' HR' HT
                go_wp2_with fail
                refine (of_any _ _ 71 _ w5 DT.out (by simp [atL, be32_len, HYl.out, HZl.out])).mono ?_
                rintro q1 w6 ⟨rfl, hb⟩
                have F2 := Kp.mk (D2.out.keep hb)
                have F3 := Kp.mk (D3.out.keep hb)
                have F4 : Kp (Below A w w6) := ⟨D4.out.trans (hb.mono (Nat.le_of_lt D2.out.lt))⟩
                have F5 := Kp.mk (D5.out.below hb)
                have F8 : Kp (K0 ≤ w6.heap.size) := ⟨by have := hb.size; have := D8.out; omega⟩
                clear hb D2 D3 D4 D5 DT
                obtain ⟨u, hu⟩ : ∃ u, u = shortL (aboveT d e ((l : Int) + 1) y z) := ⟨_, rfl⟩
                rw [show dgV (shortL (71 :: _)) = dgV (shortL (aboveT d e ((l : Int) + 1) y z)) from rfl, ← hu]
                have HUl : Kp (u.length = 16) := ⟨by rw [hu]; exact shortL_len _⟩
                have HUe : Kp (u = foldL d e x j p (l + 1)) := ⟨by rw [hu, foldL, if_neg HPar.out, ← HYe.out, ← HZe.out]⟩
                have HTe : Kp (ts ++ [aboveT d e ((l : Int) + 1) y z] = foldTL d e x j p (l + 1)) := ⟨by rw [foldTL, if_neg HPar.out, ← HYe.out, ← HZe.out, ← HTSe.out]⟩
                clear hu
                have F6 : Kp (TextsO (w6.setRow A (kv .u8 u).toArray) K0 v5 (ts ++ [aboveT d e ((l : Int) + 1) y z])) := ⟨F5.out.set (by omega) _⟩
                have F7 : Kp (Row (w6.setRow A (kv .u8 u).toArray) A 32 .u8 u) := ⟨F2.out.setRow u⟩
                go_wp2_with (refine wpList_store_row rfl 32 (.tmp 8) (.tmp 72) rfl A (kv .u8 u).toArray rfl rfl 32 _ F2.out (cells49 HUl.out) (by rw [kv_size, kv_size, HYl.out, HUl.out]) (kv_all _ _) ?_)
                exact ⟨⟨l + 1, q / 2, by omega, by go_num, by first | rfl | (congr 1; omega), HQn, ⟨by rw [← HTe.out]; exact F6.out⟩, ⟨by rw [← HUe.out]; exact F7.out⟩, ⟨Row.otherRow F3.out (by omega) _⟩, ⟨Below.row F4.out (by omega) _⟩, ⟨by simpa [World.setRow] using F8.out⟩⟩, by simp [intOf]; omega⟩
          · have hl' : l = n := by omega
            subst hl'
            rw [← HYe.out, ← HTSe.out] at HU
            have HF := Kp.mk (E3.out.setRow y)
            have HBf := Kp.mk (Below.row E4.out (g := A + 1) (by omega) (kv .u8 y).toArray)
            have HTO := Kp.mk (E5.out.set (g := A + 1) (by omega) (kv .u8 y).toArray)
            go_wp2_with first
              | (refine wpList_load_row rfl 32 (.tmp 8) rfl A rfl 32 _ (0, 0) _ E2.out Tryd.underlying32 rfl (cells49 HYl.out) ?_)
              | (refine wpList_store_row rfl 32 (.tmp 10) (.tmp 75) rfl (A + 1) (kv .u8 y).toArray rfl rfl 32 _ E3.out (cells49 HYl.out) (size50 HYl.out) (kv_all _ _) ?_)
            refine bodyPost_ret (results_rfold (v := u15) rfl rfl rfl HF.out HYl.out) rfl ⟨_, by rw [HU.out.1, HU.out.2.1], by rw [HU.out.2.2]; exact HTO.out.holds, ?_, by rw [← HA.out]; exact HBf.out⟩
            intro a' n' c' ev
            obtain ⟨vs, k1, _⟩ := HTO.out
            have h := k1.lt a'.block (by rw [ev]; rfl)
            exact ⟨by rw [← HA.out]; omega, h.2⟩
end Go.Proofs.YtahmioiefmheeaaDoor
