/-
  Two ways to one top part somewhere: mathematics of LadderSound.
  A slice of short sums that came in.
-/
import Derived.Test.YtahmioiefmheeaaDoorLo20
import Derived.OpenShut
import Derived.Lib.SmallJoins
namespace Go.Proofs.YtahmioiefmheeaaDoor
open Go.RowKit

theorem joinT_inj {d e s r : Int} {x y x' y' : List Int} (hx : x.length = 16) (hx' : x'.length = 16) (h : joinT d e s r x y = joinT d e s r x' y') : x = x' ∧ y = y' := by
  unfold joinT at h
  simp only [List.cons.injEq, true_and, List.append_assoc] at h
  have h1 := List.append_cancel_left h
  exact List.append_inj h1 (by omega)
/-- What is summed below is summed for the whole. -/
theorem nodeT_sub (d e s r : Int) (x : List Int) : ∀ (c l q : Nat) (t : List Int), q < 2 ^ c → t ∈ nodeT d e s r x l q → t ∈ nodeT d e s r x (l + c) 0
  | 0, l, q, t, hq, h => by
    have : q = 0 := by simpa using hq
    subst this
    exact h
  | c + 1, l, q, t, hq, h => by
    have h2 : q / 2 < 2 ^ c := by rw [Nat.pow_succ] at hq; omega
    have h3 := nodeT_sub d e s r x c (l + 1) (q / 2) t h2 (by
      rw [nodeT]
      by_cases hp : q % 2 = 0
      · have e1 : 2 * ((q / 2 : Nat) : Int) = (q : Int) := by omega
        rw [e1]
        exact List.mem_append_left _ (List.mem_append_left _ h)
      · have e1 : 2 * ((q / 2 : Nat) : Int) + 1 = (q : Int) := by omega
        rw [e1]
        exact List.mem_append_left _ (List.mem_append_right _ h))
    rw [show l + (c + 1) = l + 1 + c by omega]
    exact h3
theorem riseTL_at (d e s r : Int) (x : List Int) (j : Nat) (p : List Int) : ∀ (n l : Nat), l < n → (riseTL d e s r x j p n).getD l [] = if j / 2 ^ l % 2 = 0 then joinT d e s r (riseL d e s r x j p l) (segL p l) else joinT d e s r (segL p l) (riseL d e s r x j p l)
  | 0, l, h => by omega
  | n + 1, l, h => by
    rw [riseTL]
    by_cases hl : l < n
    · rw [List.getD_eq_getElem?_getD, List.getElem?_append_left (by rw [riseTL_len]; exact hl), ← List.getD_eq_getElem?_getD]
      exact riseTL_at d e s r x j p n l hl
    · have : l = n := by omega
      subst this
      rw [List.getD_eq_getElem?_getD, List.getElem?_append_right (by rw [riseTL_len]; omega), riseTL_len, Nat.sub_self]
      rfl
theorem clash_of_mem {us bs : List (List Int)} {t : List Int} {k : Nat} (h1 : t ∈ us) (h2 : k < bs.length) (hs : shortL t = shortL (bs.getD k [])) (hne : t ≠ bs.getD k []) : ClashP us bs := by
  obtain ⟨i, hi, rfl⟩ := List.mem_iff_getElem.1 h1
  refine ⟨i, k, hi, h2, ?_, ?_⟩
  · rw [List.getD_eq_getElem?_getD (l := us), List.getElem?_eq_getElem hi]; exact hs
  · rw [List.getD_eq_getElem?_getD (l := us), List.getElem?_eq_getElem hi]; exact hne
theorem sound_step (d e s r : Int) (x xl : List Int) (k j : Nat) (p : List Int) (hxl : xl.length = 16) (hp : p.length = k * 16) (hj : j < 2 ^ k) : ∀ l, l ≤ k → riseL d e s r xl j p l = nodeS d e s r x l (j / 2 ^ l : Nat) →
    (xl = nodeS d e s r x 0 j ∧ ∀ l', l' < l → segL p l' = nodeS d e s r x l' (besI j l' : Nat)) ∨ ClashP (nodeT d e s r x k 0) (riseTL d e s r xl j p k)
  | 0, _, h => by
    refine .inl ⟨?_, fun l' h' => by omega⟩
    simpa [riseL] using h
  | l + 1, hl, h => by
    have hd : j / 2 ^ (l + 1) = j / 2 ^ l / 2 := by rw [Nat.pow_succ, Nat.div_div_eq_div_mul]
    have hq : j / 2 ^ l / 2 < 2 ^ (k - (l + 1)) := by
      rw [← hd, Nat.div_lt_iff_lt_mul (Nat.pow_pos (by decide)), ← Nat.pow_add, Nat.sub_add_cancel (by omega)]
      exact hj
    -- the text that is summed for the tree
    have hmem : joinT d e s r (nodeS d e s r x l (2 * ((j / 2 ^ l / 2 : Nat) : Int))) (nodeS d e s r x l (2 * ((j / 2 ^ l / 2 : Nat) : Int) + 1)) ∈ nodeT d e s r x k 0 := by
      have h1 := nodeT_sub d e s r x (k - (l + 1)) (l + 1) (j / 2 ^ l / 2) (joinT d e s r (nodeS d e s r x l (2 * ((j / 2 ^ l / 2 : Nat) : Int))) (nodeS d e s r x l (2 * ((j / 2 ^ l / 2 : Nat) : Int) + 1))) hq (by
        rw [nodeT]
        exact List.mem_append_right _ (List.mem_singleton.2 rfl))
      rw [show l + 1 + (k - (l + 1)) = k by omega] at h1
      exact h1
    have hat := riseTL_at d e s r xl j p k l (by omega)
    have hlen : l < (riseTL d e s r xl j p k).length := by rw [riseTL_len]; omega
    have hyl := riseL_len d e s r xl j p hxl l
    have hzl : (segL p l).length = 16 := segL_len hp (by omega)
    rw [riseL, hd] at h
    have hn : nodeS d e s r x (l + 1) ((j / 2 ^ l / 2 : Nat) : Int) = shortL (joinT d e s r (nodeS d e s r x l (2 * ((j / 2 ^ l / 2 : Nat) : Int))) (nodeS d e s r x l (2 * ((j / 2 ^ l / 2 : Nat) : Int) + 1))) := rfl
    rw [hn] at h
    by_cases hpar : j / 2 ^ l % 2 = 0
    · rw [if_pos hpar] at h hat
      by_cases heq : joinT d e s r (nodeS d e s r x l (2 * ((j / 2 ^ l / 2 : Nat) : Int))) (nodeS d e s r x l (2 * ((j / 2 ^ l / 2 : Nat) : Int) + 1)) = joinT d e s r (riseL d e s r xl j p l) (segL p l)
      · obtain ⟨h1, h2⟩ := joinT_inj (nodeS_len _ _ _ _ _ _ _) hyl heq
        have e1 : 2 * ((j / 2 ^ l / 2 : Nat) : Int) = ((j / 2 ^ l : Nat) : Int) := by omega
        have e2 : 2 * ((j / 2 ^ l / 2 : Nat) : Int) + 1 = ((besI j l : Nat) : Int) := by unfold besI; generalize j / 2 ^ l = q at hpar ⊢; rw [if_neg (by omega)]; omega
        rw [e1] at h1
        rw [e2] at h2
        rcases sound_step d e s r x xl k j p hxl hp hj l (by omega) h1.symm with ⟨g1, g2⟩ | g
        · refine .inl ⟨g1, fun l' hl' => ?_⟩
          rcases Nat.lt_succ_iff_lt_or_eq.1 hl' with h' | h'
          · exact g2 l' h'
          · subst h'; exact h2.symm
        · exact .inr g
      · exact .inr (clash_of_mem hmem hlen (by rw [hat]; exact h.symm) (by rw [hat]; exact heq))
    · rw [if_neg hpar] at h hat
      by_cases heq : joinT d e s r (nodeS d e s r x l (2 * ((j / 2 ^ l / 2 : Nat) : Int))) (nodeS d e s r x l (2 * ((j / 2 ^ l / 2 : Nat) : Int) + 1)) = joinT d e s r (segL p l) (riseL d e s r xl j p l)
      · obtain ⟨h1, h2⟩ := joinT_inj (nodeS_len _ _ _ _ _ _ _) hzl heq
        have e1 : 2 * ((j / 2 ^ l / 2 : Nat) : Int) + 1 = ((j / 2 ^ l : Nat) : Int) := by omega
        have e2 : 2 * ((j / 2 ^ l / 2 : Nat) : Int) = ((besI j l : Nat) : Int) := by unfold besI; generalize j / 2 ^ l = q at hpar ⊢; rw [if_pos (by omega)]; omega
        rw [e1] at h2
        rw [e2] at h1
        rcases sound_step d e s r x xl k j p hxl hp hj l (by omega) h2.symm with ⟨g1, g2⟩ | g
        · refine .inl ⟨g1, fun l' hl' => ?_⟩
          rcases Nat.lt_succ_iff_lt_or_eq.1 hl' with h' | h'
          · exact g2 l' h'
          · subst h'; exact h1.symm
        · exact .inr g
      · exact .inr (clash_of_mem hmem hlen (by rw [hat]; exact h.symm) (by rw [hat]; exact heq))
theorem rowsL_segs (p : List Int) : ∀ n, n * 16 ≤ p.length → rowsL (fun i => segL p i) n = p.take (n * 16)
  | 0, _ => by simp [rowsL]
  | n + 1, h => by rw [rowsL, rowsL_segs p n (by omega), take_seg]
/-- Whatever leaf and way rise to the top: they are the node's own, or two unlike texts have one sum. -/
theorem ladder_sound (d e s r : Int) (x xl : List Int) (k j : Nat) (p : List Int) (hxl : xl.length = 16) (hp : p.length = k * 16) (hj : j < 2 ^ k) (h : riseL d e s r xl j p k = nodeS d e s r x k 0) :
    (xl = nodeS d e s r x 0 j ∧ p = wayL d e s r x k j) ∨ ClashP (nodeT d e s r x k 0) (riseTL d e s r xl j p k) := by
  have h0 : j / 2 ^ k = 0 := Nat.div_eq_of_lt hj
  rcases sound_step d e s r x xl k j p hxl hp hj k (Nat.le_refl _) (by rw [h0]; exact h) with ⟨h1, h2⟩ | g
  · refine .inl ⟨h1, ?_⟩
    have e1 := rowsL_segs p k (by omega)
    rw [List.take_of_length_le (by omega)] at e1
    rw [← e1]
    exact rowsL_congr k fun i hi => h2 i hi
  · exact .inr g
end Go.Proofs.YtahmioiefmheeaaDoor

namespace Go.Proofs.YtahmioiefmheeaaDoor
open Go.ChangeShapes Go.WideShapes Go.ChangeAt Go.RowKit Go.Deep

theorem c32 : Tryd.prog.cellsOf 32 = 16 := by kernel_rfl
theorem c5 : Tryd.prog.cellsOf 5 = 1 := by kernel_rfl
section
variable {H : Type} {enc : TypeId × Value → H} {W : World}
theorem sum_of {n : Nat} {cs : List Value} {x : DataW H × List MemPlace} (h : DataW.trod enc Tryd.prog W 0 (fun _ => true) true n 32 cs = some x) : ∃ p, cs = bv p ∧ p.length = 16 ∧ Bytes p := by
  obtain ⟨ys, k, _, _, hl, hy, hg⟩ := DataW.trod_array Tryd.underlying32 h
  rw [c32] at hl
  rw [c5] at hg
  have each : ∀ j, j < 16 → ∃ z : Int, cs[j]? = some (.int .u8 z) ∧ 0 ≤ z ∧ z ≤ 255 := fun j hj => by
    have h1 := hg j (by omega)
    rw [List.getElem?_eq_getElem (show j < ys.length by omega), Nat.mul_one] at h1
    obtain ⟨z, e0, _, wz⟩ := DataW.trod_int Tryd.underlying5 h1
    have h2 : IntKind.u8.min = 0 := rfl
    have h3 : IntKind.u8.max = 255 := rfl
    simp [Lit.wf, h2, h3] at wz
    refine ⟨z, ?_, wz⟩
    have h4 : ((cs.drop j).take 1)[0]? = some (.int .u8 z) := by rw [e0]; rfl
    rw [List.getElem?_take, if_pos (by omega), List.getElem?_drop] at h4
    simpa using h4
  obtain ⟨f, hf⟩ : ∃ f : Nat → Int, ∀ j, j < 16 → cs[j]? = some (.int .u8 (f j)) ∧ 0 ≤ f j ∧ f j ≤ 255 := by
    refine ⟨fun j => if h : j < 16 then Classical.choose (each j h) else 0, fun j hj => ?_⟩
    simp only [hj, dif_pos]
    exact Classical.choose_spec (each j hj)
  refine ⟨(List.range 16).map f, ?_, by simp, fun y hy => ?_⟩
  · apply List.ext_getElem?
    intro j
    by_cases hj : j < 16
    · rw [(hf j hj).1, List.getElem?_map, List.getElem?_map, List.getElem?_range hj]; rfl
    · rw [List.getElem?_eq_none (by omega), List.getElem?_eq_none (by simp; omega)]
  · obtain ⟨j, hj, rfl⟩ := List.mem_map.1 hy
    exact (hf j (List.mem_range.1 hj)).2

theorem sums_of {n : Nat} {v : Value} {x : DataW H × List MemPlace} (h : DataW.trod enc Tryd.prog W 0 (fun _ => true) true n 65 [v] = some x) : ∃ k S, HoldsS W v k S := by
  rcases open_slice Tryd.underlying65 h with ⟨hcs, _⟩ | ⟨a, len, cap, m, n', D, Pl, hcs, hb, hl, hm, hmm, hx, hi⟩
  · simp at hcs
    subst hcs
    exact ⟨0, [], none, 0, rfl, rfl, by unfold maxLen; omega, Bytes.nil, fun h => by omega⟩
  · simp at hcs
    subst hcs
    have hmc : m = cap := by simpa using hmm
    rw [c32] at hi
    have each : ∀ i, i < len → ∃ p : List Int, W.cells? 0 (a.add (i * 16)) 16 = some (bv p) ∧ p.length = 16 ∧ Bytes p := fun i him => by
      obtain ⟨cs, hc, ht⟩ := hi i (by omega)
      obtain ⟨p, rfl, hp⟩ := sum_of ht
      exact ⟨p, hc, hp⟩
    have hs : 0 < len → a.spot = none := fun h0 => by
      obtain ⟨p, hc, hp, _⟩ := each 0 h0
      obtain ⟨_, _, hat⟩ := World.cells?_some hc
      have h1 := hat 0 (by omega)
      rw [List.getElem?_map, List.getElem?_eq_getElem (show 0 < p.length by omega)] at h1
      simpa [Addr.add] using World.cell?_spot h1
    have hcell : ∀ j, j < len * 16 → ∃ z : Int, W.cell? (a.add j) = some (.int .u8 z) ∧ 0 ≤ z ∧ z ≤ 255 := fun j hj => by
      obtain ⟨p, hc, hp, hB⟩ := each (j / 16) (by omega)
      obtain ⟨_, _, hat⟩ := World.cells?_some hc
      have h1 := hat (j % 16) (by omega)
      have h2 : (a.add (j / 16 * 16)).add (j % 16) = a.add j := by
        have h3 : j / 16 * 16 + j % 16 = j := by omega
        obtain ⟨b, off, sp⟩ := a
        have h4 : sp = none := hs (by omega)
        subst h4
        rw [add_plain, add_plain, add_plain, Nat.add_assoc, h3]
      rw [h2, List.getElem?_map, List.getElem?_eq_getElem (show j % 16 < p.length by omega)] at h1
      exact ⟨_, h1, hB _ (List.getElem_mem _)⟩
    obtain ⟨f, hf⟩ : ∃ f : Nat → Int, ∀ j, j < len * 16 → W.cell? (a.add j) = some (.int .u8 (f j)) ∧ 0 ≤ f j ∧ f j ≤ 255 := by
      refine ⟨fun j => if h : j < len * 16 then Classical.choose (hcell j h) else 0, fun j hj => ?_⟩
      simp only [hj, dif_pos]
      exact Classical.choose_spec (hcell j hj)
    refine ⟨len, (List.range (len * 16)).map f, some a, cap, rfl, by simp, by omega, fun y hy => ?_, fun h0 => ?_⟩
    · obtain ⟨j, hj, rfl⟩ := List.mem_map.1 hy
      exact (hf j (List.mem_range.1 hj)).2
    · obtain ⟨b, off, spot⟩ := a
      have h00 := (hf 0 (by omega)).1
      have hspot : spot = none := by simpa [Addr.add] using World.cell?_spot h00
      subst hspot
      refine ⟨b, off, rfl, by simpa [Addr.add] using World.block_lt_of_cell? W _ h00, fun j hj => ?_⟩
      have := (hf j hj).1
      rw [add_plain] at this
      rw [this, List.getD_eq_getElem?_getD, List.getElem?_map, List.getElem?_range hj]; rfl
end
theorem row_sums {H : Type} {enc : TypeId × Value → H} {W : World} {a : Option Addr} {len cap : Nat} {d : DataW H} {p : List MemPlace}
    (k : DataW.Trod enc Tryd.prog W 0 (fun _ => true) true 65 (.slice a len cap) d p) : ∃ l, HoldsS W (.slice a len cap) len l ∧ len ≤ cap ∧ cap ≤ maxLen := by
  obtain ⟨fuel, hf⟩ := k
  have hcap : len ≤ cap ∧ cap ≤ maxLen := by
    have hf' : DataW.trod enc Tryd.prog W 0 (fun _ => true) true fuel 65 [.slice a len cap] = some (d, p) := by simpa [Value.cells] using hf
    rcases open_slice Tryd.underlying65 hf' with ⟨hcs, _⟩ | ⟨a', len', cap', m, n', D, Pl, hcs, hb, hl, hm, hmm, hx, hi⟩
    · simp at hcs
      obtain ⟨_, rfl, rfl⟩ := hcs
      exact ⟨Nat.le_refl _, by unfold maxLen; omega⟩
    · simp at hcs
      obtain ⟨_, rfl, rfl⟩ := hcs
      exact ⟨by omega, by omega⟩
  obtain ⟨n, l, h⟩ := sums_of (n := fuel) (v := .slice a len cap) (by simpa [Value.cells] using hf)
  obtain ⟨a', cap', e, _⟩ := id h
  simp only [Value.slice.injEq] at e
  obtain ⟨_, rfl, _⟩ := e
  exact ⟨l, h, hcap⟩
end Go.Proofs.YtahmioiefmheeaaDoor
