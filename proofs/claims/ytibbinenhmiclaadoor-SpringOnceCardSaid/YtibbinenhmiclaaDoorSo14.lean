/-
  grove.New, at every height.
-/
import Derived.Test.YtibbinenhmiclaaDoorSo13
namespace Go.Proofs.YtibbinenhmiclaaDoor
open Go.RowKit

theorem height_pow (n k : Nat) (w : World) (hn : n = 2 ^ k) (hk : k ≤ 6) : Calls Tryd.prog 54 #[.int .i64 n] w fun r w' => r = .returned (.int .i64 k) ∧ w' = w := by
  have hN : ((n : Nat) : Int) = 2 ^ k := by rw [hn]; simp
  refine (height_any n w).mono ?_
  rintro r w' ⟨h, rfl, rfl, h2⟩
  rcases h2 with ⟨i, hi, e1, e2⟩ | ⟨hno, _⟩
  · have : i = k := by
      have h3 : (2 : Int) ^ i = 2 ^ k := by rw [← e1, hN]
      rcases (show i = 0 ∨ i = 1 ∨ i = 2 ∨ i = 3 ∨ i = 4 ∨ i = 5 ∨ i = 6 by omega) with rfl | rfl | rfl | rfl | rfl | rfl | rfl <;>
      rcases (show k = 0 ∨ k = 1 ∨ k = 2 ∨ k = 3 ∨ k = 4 ∨ k = 5 ∨ k = 6 by omega) with rfl | rfl | rfl | rfl | rfl | rfl | rfl <;> first | rfl | (exfalso; revert h3; decide)
    subst this
    exact ⟨by rw [e2], rfl⟩
  · exact absurd hN (hno k (by omega))
theorem rowsL_segs (p : List Int) : ∀ n, n * 16 ≤ p.length → rowsL (fun i => segL p i) n = p.take (n * 16)
  | 0, _ => by simp [rowsL]
  | n + 1, h => by rw [rowsL, rowsL_segs p n (by omega), take_seg]
theorem own_range {w : World} {base m : Nat} {v : Value} {p : List Int} (h : w.ownsRow base 43 16 v m (bv p)) (h0 : 0 < m) : ∃ C c, v = .slice (some ⟨C, 0, none⟩) m c ∧ base ≤ C ∧ C < w.heap.size ∧ w.rangeAt C 0 (kv .u8 p) := by
  rcases h.2 with ⟨_, hz⟩ | ⟨g, cap, cur, rfl, hb, hg, _, _, _, ht⟩
  · omega
  · refine ⟨g, cap, rfl, hb, (Array.getElem?_eq_some_iff.1 hg).1, fun j v hj => ?_⟩
    rw [cell_of_row w g (0 + j) cur 43 (0, 0) hg, Nat.zero_add, ← Array.getElem?_toList]
    have hj2 : (bv p)[j]? = some v := hj
    rw [← ht, List.getElem?_take] at hj2
    split at hj2
    · exact hj2
    · cases hj2
set_option maxRecDepth 100000 in
set_option maxHeartbeats 1000000 in
theorem clone_any (a : Option Addr) (n cap : Nat) (p : List Int) (w : World) (h : HoldsS w (.slice a n cap) n p) (h0 : 0 < n) (hn : n ≤ 1000000) :
    Calls Tryd.prog 55 #[.slice a n cap] w fun r w' => ∃ v', r = .returned v' ∧ w'.ownsRow w.heap.size 43 16 v' n (bv p) ∧ Below w.heap.size w w' := by
  obtain ⟨i0, hi, hz0, hz1, hz2⟩ := info_parts info33'
  obtain ⟨a', c', e, hl, _, _, h4⟩ := h
  obtain ⟨b, off, rfl, hb, hc⟩ := h4 h0
  simp only [Value.slice.injEq] at e
  obtain ⟨rfl, -, rfl⟩ := e
  have HC : Kp (∀ j u, (kv .u8 p)[j]? = some u → (w.alloc (.cells #[] 43)).cell? ((⟨b, off, none⟩ : Addr).add j) = some u) := ⟨fun j u hu => by
    have e : (⟨b, off, none⟩ : Addr).add j = ⟨b, off + j, none⟩ := by unfold Addr.add; split <;> simp_all
    rw [e]
    have hj : j < n * 16 := by
      have := (List.getElem?_eq_some_iff.1 hu).1
      simp at this
      omega
    refine ((more (Below.refl w.heap.size w) (.cells #[] 43)).cell (p := ⟨b, off + j, none⟩) hb).trans ((hc j hj).trans ?_)
    rw [List.getElem?_map] at hu
    rw [List.getD_eq_getElem?_getD]
    cases hq : p[j]? with
    | none => rw [hq] at hu; cases hu
    | some q => rw [hq] at hu; exact hu⟩
  have HL := Kp.mk hl
  clear hc h4 hl
  have hql : ∀ w, (binOp .eql 50 (.slice (some ⟨b, off, none⟩) n cap) (.slice none 0 0)).run Tryd.prog w = .ok (.bool false) w := fun w => rfl
  go_enter Tryd.func55, Tryd.ntmps55
  go_wp2_with (at_builtin; refine wpList_append_own _ rfl _ _ 50 rfl w.heap.size 43 i0 _ 16 16 Tryd.underlying50 hi hz0 hz1 hz2 rfl (by decide) _ 0 [] rfl (World.ownsRow_made w #[] 0 (Nat.le_refl _) (by unfold maxLen; omega) rfl) ⟨b, off, none⟩ n cap (kv .u8 p) rfl ?c0 HC.out (kv_one _) ?c1 ?c2 ?c3 ?_)
  case c0 => rw [List.length_map, HL.out]
  case c1 => unfold maxLen; omega
  case c2 => omega
  case c3 => simp
  intro v' w' ho hg _
  have hbel : Below w.heap.size w w' := below_row_grown (more (Below.refl _ _) (.cells #[] 43)) (by simp) (World.ownsRow_made (e := 43) (size := 16) w #[] 0 (Nat.le_refl _) (by unfold maxLen; omega) rfl) hg
  have HO : Kp (w'.ownsRow w.heap.size 43 16 v' n (bv p)) := ⟨by simpa using ho⟩
  have HB := Kp.mk hbel
  clear ho hg hbel
  go_wp2_with fail
  go_ret
  exact ⟨v', rfl, HO.out, HB.out⟩
/-- Rows of sums that the call made, in a row of its own, whose slice stands in a block G. -/
def GrowIs (w : World) (G A : Nat) (v : Value) (ps : List (List Int)) : Prop :=
  ∃ vs : List Value, w.ownsRow A 50 1 v ps.length vs ∧ v.ownBlock ≠ some G ∧ ∀ i, i < ps.length → ∃ B c, vs[i]? = some (.slice (some ⟨B, 0, none⟩) ((ps.getD i []).length / 16) c) ∧ w.rangeAt B 0 (kv .u8 (ps.getD i [])) ∧ B < w.heap.size ∧ B ≠ G ∧ v.ownBlock ≠ some B ∧ A ≤ B
theorem GrowIs.below {w w' : World} {G A : Nat} {v : Value} {ps : List (List Int)} (h : GrowIs w G A v ps) (hb : Below w.heap.size w w') : GrowIs w' G A v ps := by
  obtain ⟨vs, h1, h2, h3⟩ := h
  refine ⟨vs, ownsRow_below h1 hb, h2, fun i hi => ?_⟩
  obtain ⟨B, c, e, hr, hB, hG, hne, hAB⟩ := h3 i hi
  exact ⟨B, c, e, fun j v hj => (hb.cell (p := ⟨B, 0 + j, none⟩) hB).trans (hr j v hj), Nat.lt_of_lt_of_le hB hb.size, hG, hne, hAB⟩
theorem GrowIs.set {w : World} {G A : Nat} {v : Value} {ps : List (List Int)} (h : GrowIs w G A v ps) (x : Value) : GrowIs (w.setCell ⟨G, 0, none⟩ x) G A v ps := by
  obtain ⟨vs, h1, h2, h3⟩ := h
  refine ⟨vs, ownsRow_set h1 h2, h2, fun i hi => ?_⟩
  obtain ⟨B, c, e, hr, hB, hG, hne, hAB⟩ := h3 i hi
  refine ⟨B, c, e, fun j v hj => ?_, by simpa [World.setCell] using hB, hG, hne, hAB⟩
  exact (World.cell?_of_block (w := w) (a := ⟨B, 0 + j, none⟩) (heap_setCell_other w ⟨G, 0, none⟩ B x (by show B ≠ G; exact hG))).trans (hr j v hj)
theorem GrowIs.more {w w' : World} {G A n g C c capN m : Nat} {v : Value} {ps : List (List Int)} {p : List Int} {vs : List Value} (hn : ps.length = n) (h1 : w.ownsRow A 50 1 v ps.length vs) (h2 : v.ownBlock ≠ some G)
    (h3 : ∀ i, i < ps.length → ∃ B c, vs[i]? = some (.slice (some ⟨B, 0, none⟩) ((ps.getD i []).length / 16) c) ∧ w.rangeAt B 0 (kv .u8 (ps.getD i [])) ∧ B < w.heap.size ∧ B ≠ G ∧ v.ownBlock ≠ some B ∧ A ≤ B)
    (hm : p.length / 16 = m) (hr : w.rangeAt C 0 (kv .u8 p)) (hC : C < w.heap.size) (hAC : A ≤ C) (hCG : C ≠ G) (hCv : v.ownBlock ≠ some C) (hGl : G < w.heap.size)
    (ho : w'.ownsRow A 50 1 (.slice (some ⟨g, 0, none⟩) (n + 1) capN) (n + 1) (vs ++ [.slice (some ⟨C, 0, none⟩) m c])) (hg : w.grownBy w' v.ownBlock) (hv : v.ownBlock = some g ∨ g = w.heap.size) :
    GrowIs w' G A (.slice (some ⟨g, 0, none⟩) (n + 1) capN) (ps ++ [p]) := by
  have ne : ∀ B, B < w.heap.size → v.ownBlock ≠ some B → (Value.slice (some ⟨g, 0, none⟩) (n + 1) capN).ownBlock ≠ some B := fun B hB hne e => by
    have e' : g = B := by simpa [Value.ownBlock] using e
    rcases hv with h | h
    · exact hne (by rw [h, e'])
    · omega
  have kp : ∀ B l, B < w.heap.size → v.ownBlock ≠ some B → w.rangeAt B 0 (kv .u8 l) → w'.rangeAt B 0 (kv .u8 l) := fun B l hB hne hr j v hj =>
    (World.cell?_of_block (w := w) (a := ⟨B, 0 + j, none⟩) (hg.block B hB (fun e => hne e.symm))).trans (hr j v hj)
  have hvl : vs.length = ps.length := by have := h1.1; omega
  refine ⟨vs ++ [.slice (some ⟨C, 0, none⟩) m c], by rw [List.length_append, hn]; exact ho, ne G hGl h2, fun i hi => ?_⟩
  rw [List.length_append] at hi
  by_cases hlt : i < ps.length
  · obtain ⟨B, c', e, hr', hB, hG, hne, hAB⟩ := h3 i hlt
    have hgd : (ps ++ [p]).getD i [] = ps.getD i [] := by rw [List.getD_eq_getElem?_getD, List.getD_eq_getElem?_getD, List.getElem?_append_left hlt]
    rw [hgd]
    exact ⟨B, c', by rw [List.getElem?_append_left (by omega)]; exact e, kp B _ hB hne hr', Nat.lt_of_lt_of_le hB hg.size, hG, ne B hB hne, hAB⟩
  · have hi' : i = ps.length := by simp at hi; omega
    have hgd : (ps ++ [p]).getD i [] = p := by rw [List.getD_eq_getElem?_getD, List.getElem?_append_right (by omega), hi', Nat.sub_self]; rfl
    rw [hgd]
    exact ⟨C, c, by rw [List.getElem?_append_right (by omega), hi', hvl, Nat.sub_self, hm]; rfl, kp C _ hC hCv hr, Nat.lt_of_lt_of_le hC hg.size, hCG, ne C hC hCv, hAC⟩
theorem GrowIs.high {w w' : World} {G A : Nat} {v : Value} {ps : List (List Int)} (h : GrowIs w G A v ps) {I : Nat} (hI : I < A) (hg : w.grownBy w' (some I)) : GrowIs w' G A v ps := by
  obtain ⟨vs, h1, h2, h3⟩ := h
  refine ⟨vs, h1.kept hg ?_, h2, fun i hi => ?_⟩
  · cases hv : v.ownBlock with
    | none => exact .inl rfl
    | some k =>
      refine .inr fun e => ?_
      have := (h1.lt k hv).1
      simp at e
      omega
  · obtain ⟨B, c, e, hr, hB, hG, hne, hAB⟩ := h3 i hi
    exact ⟨B, c, e, fun j v hj => (World.cell?_of_block (w := w) (a := ⟨B, 0 + j, none⟩) (hg.block B hB (fun e => by simp at e; omega))).trans (hr j v hj), Nat.lt_of_lt_of_le hB hg.size, hG, hne, hAB⟩
/-- Such rows, to be read. -/
def GrowAt (w : World) (v : Value) (ps : List (List Int)) : Prop :=
  ∃ R cR, v = .slice (some ⟨R, 0, none⟩) ps.length cR ∧ (ps.length ≤ cR ∧ cR ≤ maxLen) ∧ R < w.heap.size ∧ ∀ i, i < ps.length → ∃ B c, w.cell? ⟨R, i, none⟩ = some (.slice (some ⟨B, 0, none⟩) ((ps.getD i []).length / 16) c) ∧ w.rangeAt B 0 (kv .u8 (ps.getD i [])) ∧ B < w.heap.size
theorem GrowIs.at {w : World} {G A : Nat} {v : Value} {ps : List (List Int)} (h : GrowIs w G A v ps) (h0 : 0 < ps.length) : GrowAt w v ps := by
  obtain ⟨vs, h1, _, h3⟩ := h
  rcases h1.2 with ⟨_, hn⟩ | ⟨g, cap, cur, rfl, hb, hg, hle, hcap, hsz, ht⟩
  · omega
  · refine ⟨g, cap, rfl, ⟨hle, hcap⟩, (Array.getElem?_eq_some_iff.1 hg).1, fun i hi => ?_⟩
    obtain ⟨B, c', e, hr, hB, _⟩ := h3 i hi
    refine ⟨B, c', ?_, hr, hB⟩
    rw [cell_of_row w g i cur 50 (0, 0) hg, ← Array.getElem?_toList, ← e, ← ht, List.getElem?_take, if_pos (by omega)]
theorem GrowAt.keep {w w' : World} {v : Value} {ps : List (List Int)} (h : GrowAt w v ps) (hb : Below w.heap.size w w') : GrowAt w' v ps := by
  obtain ⟨R, cR, e, hc, hR, h3⟩ := h
  refine ⟨R, cR, e, hc, Nat.lt_of_lt_of_le hR hb.size, fun i hi => ?_⟩
  obtain ⟨B, c, e1, hr, hB⟩ := h3 i hi
  exact ⟨B, c, (hb.cell (p := ⟨R, i, none⟩) hR).trans e1, fun j v hj => (hb.cell (p := ⟨B, 0 + j, none⟩) hB).trans (hr j v hj), Nat.lt_of_lt_of_le hB hb.size⟩
/-- The tree, row by row. -/
def lvlG (d e : Int) (L : List Int) (k l : Nat) : List Int := rowsL (fun q => nodeG d e L l q) (2 ^ (k - l))
theorem lvl_le {k l i : Nat} (hl : l ≤ k) (hi : i < 2 ^ (k - l)) : (i + 1) * 2 ^ l ≤ 2 ^ k := by
  have h1 : 2 ^ k = 2 ^ (k - l) * 2 ^ l := by rw [← Nat.pow_add, Nat.sub_add_cancel hl]
  rw [h1]
  exact Nat.mul_le_mul_right _ hi
theorem lvlG_len {d e : Int} {L : List Int} {k l : Nat} (hL : L.length = 2 ^ k * 16) (hl : l ≤ k) : (lvlG d e L k l).length = 2 ^ (k - l) * 16 := rowsL_len' _ fun _ hi => nodeG_len hL l _ (lvl_le hl hi)
theorem lvlG_bytes {d e : Int} {L : List Int} (hL : Bytes L) (k l : Nat) : Bytes (lvlG d e L k l) := rowsL_bytes (fun _ => nodeG_bytes hL _ _) _
theorem lvlG_seg {d e : Int} {L : List Int} {k l i : Nat} (hL : L.length = 2 ^ k * 16) (hl : l ≤ k) (hi : i < 2 ^ (k - l)) : segL (lvlG d e L k l) i = nodeG d e L l i :=
  rowsL_mid' (f := fun q => nodeG d e L l q) _ (fun _ hj => nodeG_len hL l _ (lvl_le hl hj)) i hi
theorem lvlG_zero {d e : Int} {L : List Int} {k : Nat} (hL : L.length = 2 ^ k * 16) : lvlG d e L k 0 = L := by
  have h := rowsL_segs L (2 ^ k) (by omega)
  rw [List.take_of_length_le (by omega)] at h
  exact h
theorem upG_lvl {d e : Int} {L : List Int} {k l : Nat} (hL : L.length = 2 ^ k * 16) (hl : l < k) : upG d e ((l : Int) + 1) (lvlG d e L k l) (2 ^ (k - (l + 1))) = lvlG d e L k (l + 1) := by
  have h2 : 2 ^ (k - l) = 2 * 2 ^ (k - (l + 1)) := by rw [show k - l = (k - (l + 1)) + 1 by omega, Nat.pow_succ, Nat.mul_comm]
  refine rowsL_congr _ fun i hi => ?_
  rw [lvlG_seg hL (by omega) (by omega), lvlG_seg hL (by omega) (by omega)]
  rfl
def lvls5 (d e : Int) (L : List Int) (k m : Nat) : List (List Int) := (List.range m).map (lvlG d e L k)
theorem lvls5_len (d e : Int) (L : List Int) (k m : Nat) : (lvls5 d e L k m).length = m := by simp [lvls5]
theorem lvls5_succ (d e : Int) (L : List Int) (k m : Nat) : lvls5 d e L k (m + 1) = lvls5 d e L k m ++ [lvlG d e L k m] := by simp [lvls5, List.range_succ]
theorem lvls5_get (d e : Int) (L : List Int) (k m i : Nat) (hi : i < m) : (lvls5 d e L k m).getD i [] = lvlG d e L k i := by
  rw [List.getD_eq_getElem?_getD, lvls5, List.getElem?_map, List.getElem?_range hi]
  rfl
set_option maxRecDepth 100000 in
set_option maxHeartbeats 8000000 in
theorem newG_any (d e : Int) (a : Option Addr) (n cap : Nat) (L : List Int) (k : Nat) (w : World) (hk : KonIs w) (he : 0 ≤ e ∧ e < 4294967296) (hn : n = 2 ^ k) (hk6 : k ≤ 6) (hh : HoldsS w (.slice a n cap) n L) :
    Calls Tryd.prog 46 #[.int .i64 d, .int .u32 e, .slice a n cap] w fun r w' => ∃ G v, r = .returned (.tuple #[.pointer (some ⟨G, 0, none⟩), .int .i64 0]) ∧ Blk w' G (.cells #[v] 108) ∧ GrowIs w' G w.heap.size v (lvls5 d e L k (k + 1)) ∧ w.heap.size ≤ G ∧ Below w.heap.size w w' := by
  have HK := Kp.mk hk
  have HE := Kp.mk he
  have HN := Kp.mk hn
  have HY := Kp.mk hh
  have hn64 : 1 ≤ n ∧ n ≤ 64 := by
    rw [hn]
    rcases (show k = 0 ∨ k = 1 ∨ k = 2 ∨ k = 3 ∨ k = 4 ∨ k = 5 ∨ k = 6 by omega) with rfl | rfl | rfl | rfl | rfl | rfl | rfl <;> decide
  have HLn : Kp (L.length = 2 ^ k * 16 ∧ Bytes L) := ⟨by obtain ⟨_, _, _, h1, _, h2, _⟩ := hh; exact ⟨by rw [h1, hn], h2⟩⟩
  obtain ⟨i0, hi, hz0, hz1, hz2⟩ := info_parts info66
  obtain ⟨A, hA⟩ : ∃ A, A = w.heap.size := ⟨_, rfl⟩
  have HA := Kp.mk hA
  clear hk he hn hh hA
  go_enter Tryd.func46, Tryd.ntmps46
  go_wp2_with fail
  refine (height_pow n k w HN.out hk6).mono ?_
  rintro r w1 ⟨rfl, e1⟩
  rw [e1]
  clear e1 w1
  go_wp2_with fail
  refine (clone_any a n cap L w HY.out (by omega) (by omega)).mono ?_
  rintro r w2 ⟨vc, rfl, ho, hb⟩
  obtain ⟨C0, c0, rfl, hC1, hC2, hCr⟩ := own_range ho (by omega)
  have HC := Kp.mk (And.intro hC2 hCr)
  have HC1 : Kp (A ≤ C0) := ⟨by rw [HA.out]; exact hC1⟩
  have HB2 : Kp (Below A w w2 ∧ A ≤ w2.heap.size) := ⟨by rw [HA.out]; exact hb, by rw [HA.out]; exact hb.size⟩
  clear ho hb hC1 hC2 hCr HY
  go_wp2_with fail
  obtain ⟨R0, hR0⟩ : ∃ R, R = w2.heap.size := ⟨_, rfl⟩
  obtain ⟨G, hG⟩ : ∃ G, G = w2.heap.size + 1 := ⟨_, rfl⟩
  rw [← hG, ← hR0]
  refine wp_world (fun W => Blk W G (.cells #[.slice (some ⟨R0, 0, none⟩) 1 1] 108) ∧ GrowIs W G A (.slice (some ⟨R0, 0, none⟩) 1 1) (lvls5 d e L k 1) ∧ (Below A w W ∧ A ≤ W.heap.size) ∧ A < G) ⟨Blk.newAt _ (by rw [hG]; simp), ⟨[.slice (some ⟨C0, 0, none⟩) n c0], ⟨rfl, .inr ⟨R0, 1, #[.slice (some ⟨C0, 0, none⟩) n c0], rfl, by rw [hR0]; exact HB2.out.2, Blk.old (Blk.newAt _ hR0) _, by simp [lvls5], by unfold maxLen; omega, rfl, rfl⟩⟩, fun e => (by have e' : R0 = G := (by simpa [Value.ownBlock] using e); omega), fun i hi => ?_⟩, ⟨(HB2.out.1.alloc HB2.out.2 _).alloc (by have := HB2.out.2; simp; omega) _, by have := HB2.out.2; simp; omega⟩, by have := HB2.out.2; omega⟩ ?_
  · have hi0 : i = 0 := by simp [lvls5] at hi; exact hi
    subst hi0
    rw [lvls5_get d e L k 1 0 (by omega), lvlG_zero HLn.out.1]
    refine ⟨C0, c0, by rw [HLn.out.1, ← HN.out, Nat.mul_div_cancel _ (by decide)]; rfl, fun j v hj => ?_, by have := HC.out.1; simp; omega, by have := HC.out.1; omega, fun e => (by have e' : R0 = C0 := (by simpa [Value.ownBlock] using e); have := HC.out.1; omega), HC1.out⟩
    exact ((more (more (Below.refl w2.heap.size w2) _) _).cell (p := ⟨C0, 0 + j, none⟩) HC.out.1).trans (HC.out.2 j v hj)
  clear hR0 hG HC HC1 HB2
  rintro W ⟨q1, q2, q3, q4⟩
  have HG := Kp.mk q1
  have GI := Kp.mk q2
  have GB := Kp.mk q3
  have HGA := Kp.mk q4
  clear q1 q2 q3 q4
  go_loopw [10, 22] (fun _ c wr => ∃ l v, l ≤ k ∧ c = .int .i64 (l : Nat) ∧ Kp (Blk wr G (.cells #[v] 108)) ∧ Kp (GrowIs wr G A v (lvls5 d e L k (l + 1))) ∧ Kp (Below A w wr ∧ A ≤ wr.heap.size)) (fun _ c _ => k - (intOf c).toNat)
  case atStart => exact ⟨0, _, by omega, rfl, HG, GI, GB⟩
  case round =>
    obtain ⟨l, v, hl, rfl, HG0, GI0, GB0⟩ := hrel
    clear HG GI GB
    by_cases hlt : l < k
    · obtain ⟨R, cR, rfl, -, hR, hel⟩ := GI0.out.at (by rw [lvls5_len]; omega)
      obtain ⟨B, cB, hcell, hrg, hBl⟩ := hel l (by rw [lvls5_len]; omega)
      rw [lvls5_get d e L k (l + 1) l (by omega)] at hcell hrg
      have HLv := Kp.mk (lvls5_len d e L k (l + 1))
      have HPl' := Kp.mk (lvlG_len (d := d) (e := e) HLn.out.1 hl)
      have HPb := Kp.mk (lvlG_bytes (d := d) (e := e) HLn.out.2 k l)
      have HUp' := Kp.mk (upG_lvl (d := d) (e := e) HLn.out.1 hlt)
      have HN2' : Kp (2 ^ (k - l) = 2 * 2 ^ (k - (l + 1))) := ⟨by rw [show k - l = (k - (l + 1)) + 1 by omega, Nat.pow_succ, Nat.mul_comm]⟩
      have HM2' : Kp (0 < 2 ^ (k - (l + 1)) ∧ 2 ^ (k - (l + 1)) ≤ 32) := ⟨Nat.pow_pos (by decide), by
        rcases (show k - (l + 1) = 0 ∨ k - (l + 1) = 1 ∨ k - (l + 1) = 2 ∨ k - (l + 1) = 3 ∨ k - (l + 1) = 4 ∨ k - (l + 1) = 5 by omega) with h | h | h | h | h | h <;> rw [h] <;> decide⟩
      obtain ⟨p, hp⟩ : ∃ p, p = lvlG d e L k l := ⟨_, rfl⟩
      obtain ⟨n2, hn2⟩ : ∃ n, n = 2 ^ (k - l) := ⟨_, rfl⟩
      obtain ⟨m2, hm2⟩ : ∃ n, n = 2 ^ (k - (l + 1)) := ⟨_, rfl⟩
      rw [← hp] at hcell hrg HPl' HPb HUp'
      rw [← hn2] at HPl' HN2'
      rw [← hm2] at HUp' HN2' HM2'
      have HPl : Kp (p.length = n2 * 16) := HPl'
      have HUp : Kp (upG d e ((l : Int) + 1) p m2 = lvlG d e L k (l + 1)) := HUp'
      have HN2 : Kp (n2 = 2 * m2) := HN2'
      have HM2 : Kp (0 < m2 ∧ m2 ≤ 32) := HM2'
      rw [HPl.out, Nat.mul_div_cancel _ (by decide)] at hcell
      have HC0 : Kp ((World.drew wr).cell? ⟨R, l, none⟩ = some (.slice (some ⟨B, 0, none⟩) n2 cB)) := ⟨hcell⟩
      have HRg0 : Kp ((World.drew wr).rangeAt B 0 (kv .u8 p) ∧ B < (World.drew wr).heap.size) := ⟨hrg, hBl⟩
      have HRl : Kp (R < wr.heap.size) := ⟨hR⟩
      have HG0' : Kp (Blk (World.drew wr) G (.cells #[.slice (some ⟨R, 0, none⟩) (lvls5 d e L k (l + 1)).length cR] 108)) := HG0
      have GI0' : Kp (GrowIs (World.drew wr) G A (.slice (some ⟨R, 0, none⟩) (lvls5 d e L k (l + 1)).length cR) (lvls5 d e L k (l + 1))) := GI0
      have GB0' : Kp (Below A w (World.drew wr) ∧ A ≤ (World.drew wr).heap.size) := ⟨GB0.out.1.drew, GB0.out.2⟩
      rw [HLv.out] at HG0' GI0'
      clear HG0 GI0 GB0 hcell hrg hBl hR hel hp hn2 hm2 HPl' HUp' HN2' HM2'
      have HG0 : Kp (Blk (World.drew wr) G (.cells #[.slice (some ⟨R, 0, none⟩) (l + 1) cR] 108)) := HG0'
      have GI0 : Kp (GrowIs (World.drew wr) G A (.slice (some ⟨R, 0, none⟩) (l + 1) cR) (lvls5 d e L k (l + 1))) := GI0'
      have GB0 := GB0'
      clear HG0' GI0' GB0'
      go_wp2_with fail
      refine wp_region_any (by kernel_rfl) ?_
      change wpAny _ _ _ _ _ _ _ (World.drew _)
      refine wpAny_take (i := 0) (oi := { dst := some 25, op := Go.Op.move (Go.Operand.tmp 9), type := 83, pos := "grove.go:39", after := #[], guard := none }) (v := .pointer (some ⟨G, 0, none⟩)) rfl (by kernel_rfl) (by kernel_rfl) (by kernel_rfl) (fun _ _ _ h => h) (Or.inl ⟨by rfl, fun w => by first | rfl | go_simp⟩) ?_
      simp only [Act.put, List.setIfInBounds_toArray, List.set_cons_zero, List.set_cons_succ]
      refine wpAny_take (i := 1) (oi := { dst := some 26, op := Go.Op.move (Go.Operand.tmp 9), type := 83, pos := "grove.go:39", after := #[], guard := none }) (v := .pointer (some ⟨G, 0, none⟩)) rfl (by kernel_rfl) (by kernel_rfl) (by kernel_rfl) (fun _ _ _ h => h) (Or.inl ⟨by rfl, fun w => by first | rfl | go_simp⟩) ?_
      simp only [Act.put, List.setIfInBounds_toArray, List.set_cons_zero, List.set_cons_succ]
      refine wpAny_take (i := 2) (oi := { dst := some 27, op := Go.Op.nilCheck (Go.Operand.tmp 26), type := 0, pos := "grove.go:39", after := #[{ on := 1, ground := Go.Ground.data }], guard := none }) (v := .pointer (some ⟨G, 0, none⟩)) rfl (by kernel_rfl) (by kernel_rfl) (by kernel_rfl) (fun _ _ _ h => h) (Or.inl ⟨by rfl, fun w => by first | rfl | go_simp⟩) ?_
      simp only [Act.put, List.setIfInBounds_toArray, List.set_cons_zero, List.set_cons_succ]
      refine wpAny_take (i := 3) (oi := { dst := some 28, op := Go.Op.fieldAddr 108 (Go.Operand.tmp 27) 0, type := 0, pos := "grove.go:39", after := #[{ on := 2, ground := Go.Ground.data }], guard := none }) (v := .pointer (some ⟨G, 0, none⟩)) rfl (by kernel_rfl) (by kernel_rfl) (by kernel_rfl) (fun _ _ _ h => h) (Or.inl ⟨by rfl, fun w => by first | rfl | go_simp⟩) ?_
      simp only [Act.put, List.setIfInBounds_toArray, List.set_cons_zero, List.set_cons_succ]
      refine wpAny_take (i := 5) (oi := { dst := some 30, op := Go.Op.move (Go.Operand.tmp 0), type := 3, pos := "grove.go:39", after := #[], guard := none }) (v := .int .i64 d) rfl (by kernel_rfl) (by kernel_rfl) (by kernel_rfl) (fun _ _ _ h => h) (Or.inl ⟨by rfl, fun w => by first | rfl | go_simp⟩) ?_
      simp only [Act.put, List.setIfInBounds_toArray, List.set_cons_zero, List.set_cons_succ]
      refine wpAny_take (i := 6) (oi := { dst := some 31, op := Go.Op.move (Go.Operand.tmp 1), type := 25, pos := "grove.go:39", after := #[], guard := none }) (v := .int .u32 e) rfl (by kernel_rfl) (by kernel_rfl) (by kernel_rfl) (fun _ _ _ h => h) (Or.inl ⟨by rfl, fun w => by first | rfl | go_simp⟩) ?_
      simp only [Act.put, List.setIfInBounds_toArray, List.set_cons_zero, List.set_cons_succ]
      refine wpAny_take (i := 7) (oi := { dst := some 32, op := Go.Op.move (Go.Operand.tmp 10), type := 3, pos := "grove.go:39", after := #[], guard := none }) (v := .int .i64 l) rfl (by kernel_rfl) (by kernel_rfl) (by kernel_rfl) (fun _ _ _ h => h) (Or.inl ⟨by rfl, fun w => by first | rfl | go_simp⟩) ?_
      simp only [Act.put, List.setIfInBounds_toArray, List.set_cons_zero, List.set_cons_succ]
      refine wpAny_take (i := 8) (oi := { dst := some 33, op := Go.Op.binOp Go.BinOp.add 3 (Go.Operand.tmp 32) (Go.Operand.const (Go.Value.int Go.IntKind.i64 1)) 3, type := 3, pos := "grove.go:39", after := #[{ on := 7, ground := Go.Ground.data }], guard := none }) (v := .int .i64 ((l : Int) + 1)) rfl (by kernel_rfl) (by kernel_rfl) (by kernel_rfl) (fun _ _ _ h => h) (Or.inl ⟨by rfl, fun w => by have e1 : IntKind.i64.wrap ((l : Int) + 1) = (l : Int) + 1 := IntWalk.i64_in _ (by omega); go_simp⟩) ?_
      simp only [Act.put, List.setIfInBounds_toArray, List.set_cons_zero, List.set_cons_succ]
      refine wpAny_take (i := 9) (oi := { dst := some 34, op := Go.Op.move (Go.Operand.tmp 9), type := 83, pos := "grove.go:39", after := #[], guard := none }) (v := .pointer (some ⟨G, 0, none⟩)) rfl (by kernel_rfl) (by kernel_rfl) (by kernel_rfl) (fun _ _ _ h => h) (Or.inl ⟨by rfl, fun w => by first | rfl | go_simp⟩) ?_
      simp only [Act.put, List.setIfInBounds_toArray, List.set_cons_zero, List.set_cons_succ]
      refine wpAny_take (i := 10) (oi := { dst := some 35, op := Go.Op.nilCheck (Go.Operand.tmp 34), type := 0, pos := "grove.go:39", after := #[{ on := 9, ground := Go.Ground.data }], guard := none }) (v := .pointer (some ⟨G, 0, none⟩)) rfl (by kernel_rfl) (by kernel_rfl) (by kernel_rfl) (fun _ _ _ h => h) (Or.inl ⟨by rfl, fun w => by first | rfl | go_simp⟩) ?_
      simp only [Act.put, List.setIfInBounds_toArray, List.set_cons_zero, List.set_cons_succ]
      refine wpAny_take (i := 11) (oi := { dst := some 36, op := Go.Op.fieldAddr 108 (Go.Operand.tmp 35) 0, type := 0, pos := "grove.go:39", after := #[{ on := 10, ground := Go.Ground.data }], guard := none }) (v := .pointer (some ⟨G, 0, none⟩)) rfl (by kernel_rfl) (by kernel_rfl) (by kernel_rfl) (fun _ _ _ h => h) (Or.inl ⟨by rfl, fun w => by first | rfl | go_simp⟩) ?_
      simp only [Act.put, List.setIfInBounds_toArray, List.set_cons_zero, List.set_cons_succ]
      refine wpAny_take (i := 13) (oi := { dst := some 38, op := Go.Op.move (Go.Operand.tmp 10), type := 3, pos := "grove.go:39", after := #[], guard := none }) (v := .int .i64 l) rfl (by kernel_rfl) (by kernel_rfl) (by kernel_rfl) (fun _ _ _ h => h) (Or.inl ⟨by rfl, fun w => by first | rfl | go_simp⟩) ?_
      simp only [Act.put, List.setIfInBounds_toArray, List.set_cons_zero, List.set_cons_succ]
      refine wpAny_ready (rs := [4, 12]) (by kernel_rfl) (by simp) ?_
      refine AllReady.cons (o := { dst := some 29, op := Go.Op.load 106 (Go.Operand.tmp 28), type := 106, pos := "grove.go:39", after := #[{ on := 3, ground := Go.Ground.data }], guard := none }) rfl (fun K hK => ?_) (AllReady.cons (o := { dst := some 37, op := Go.Op.load 106 (Go.Operand.tmp 36), type := 106, pos := "grove.go:39", after := #[{ on := 11, ground := Go.Ground.data }], guard := none }) rfl (fun K hK => ?_) AllReady.nil)
      · have q2 : (World.drew wr).cell? ⟨G, 0, none⟩ = some (.slice (some ⟨R, 0, none⟩) (l + 1) cR) := HG0.out.cell 0
        go_simp
        clear q2
        refine hK _ _ ?_
        clear hK K
        try simp only [Act.put, List.setIfInBounds_toArray, List.set_cons_zero, List.set_cons_succ]
        refine wpAny_ready (rs := [12]) (by kernel_rfl) (by simp) ?_
        refine AllReady.cons (o := { dst := some 37, op := Go.Op.load 106 (Go.Operand.tmp 36), type := 106, pos := "grove.go:39", after := #[{ on := 11, ground := Go.Ground.data }], guard := none }) rfl (fun K hK => ?_) AllReady.nil
        have q2 : (World.drew wr).cell? ⟨G, 0, none⟩ = some (.slice (some ⟨R, 0, none⟩) (l + 1) cR) := HG0.out.cell 0
        go_simp
        clear q2
        refine hK _ _ ?_
        clear hK K
        try simp only [Act.put, List.setIfInBounds_toArray, List.set_cons_zero, List.set_cons_succ]
        refine wpAny_take (i := 14) (oi := { dst := some 39, op := Go.Op.indexAddr 106 (Go.Operand.tmp 37) (Go.Operand.tmp 38), type := 0, pos := "grove.go:39", after := #[{ on := 12, ground := Go.Ground.data }, { on := 13, ground := Go.Ground.data }], guard := none }) (v := .pointer (some ⟨R, l, none⟩)) rfl (by kernel_rfl) (by kernel_rfl) (by kernel_rfl) (fun _ _ _ h => h) (Or.inl ⟨by rfl, fun w => exec_idx137 (x := .tmp 37) (y := .tmp 38) (R := R) (n := l + 1) (cap := cR) (j := l) rfl rfl rfl rfl (by omega)⟩) ?_
        simp only [Act.put, List.setIfInBounds_toArray, List.set_cons_zero, List.set_cons_succ]
        refine wpAny_ready (rs := [15]) (by kernel_rfl) (by simp) ?_
        refine AllReady.cons (o := { dst := some 40, op := Go.Op.load 50 (Go.Operand.tmp 39), type := 50, pos := "grove.go:39", after := #[{ on := 14, ground := Go.Ground.data }], guard := none }) rfl (fun K hK => ?_) AllReady.nil
        have q2 : (World.drew wr).cell? ⟨R, l, none⟩ = some (.slice (some ⟨B, 0, none⟩) n2 cB) := HC0.out
        go_simp
        clear q2
        refine hK _ _ ?_
        clear hK K
        try simp only [Act.put, List.setIfInBounds_toArray, List.set_cons_zero, List.set_cons_succ]
        refine wpAny_ready (rs := [16]) (by kernel_rfl) (by simp) ?_
        refine AllReady.cons (o := { dst := some 41, op := Go.Op.call { callee := Go.Callee.value (Go.Operand.func 56), args := #[Go.Operand.tmp 30, Go.Operand.tmp 31, Go.Operand.tmp 33, Go.Operand.tmp 40], argTypes := #[3, 25, 3, 50] }, type := 50, pos := "grove.go:39", after := #[{ on := 5, ground := Go.Ground.data }, { on := 6, ground := Go.Ground.data }, { on := 8, ground := Go.Ground.data }, { on := 15, ground := Go.Ground.data }], guard := none }) rfl (fun K hK => ?_) AllReady.nil
        go_simp
        refine (halved_any d e ((l : Int) + 1) p n2 m2 B cB _ (HK.out.keep (by rw [← HA.out]; exact GB0.out.1)) HE.out HPl.out HPb.out HN2.out (by have := HM2.out; omega) HRg0.out.1 HRg0.out.2).mono ?_
        rintro r w1 ⟨vh, rfl, ho, hb⟩
        obtain ⟨C, cC, rfl, hC1, hC2, hCr⟩ := own_range ho HM2.out.1
        have HG1 := Kp.mk (HG0.out.keep hb)
        have GI1 := Kp.mk (GI0.out.below hb)
        have GB1 : Kp (Below A w w1 ∧ A ≤ w1.heap.size) := ⟨GB0.out.1.trans (hb.mono GB0.out.2), Nat.le_trans GB0.out.2 hb.size⟩
        have HCC : Kp (R < C ∧ G < C ∧ A ≤ C) := ⟨by have := HRl.out; have := HG0.out.lt; have h3 : (World.drew wr).heap.size ≤ C := hC1; have h4 : wr.heap.size = (World.drew wr).heap.size := rfl; have h5 := GB0.out.2; omega⟩
        have HCr := Kp.mk (And.intro hC2 hCr)
        clear ho hb hC1 hC2 hCr GI0 GB0 HRg0 HC0
        clear HG0
        refine hK _ _ ?_
        clear hK K
        try simp only [Act.put, List.setIfInBounds_toArray, List.set_cons_zero, List.set_cons_succ]
        refine wpAny_ready (rs := [17]) (by kernel_rfl) (by simp) ?_
        refine AllReady.cons (o := { dst := some 42, op := Go.Op.buildSlice 106 1 #[(0, Go.Operand.tmp 41)], type := 106, pos := "grove.go:39", after := #[{ on := 16, ground := Go.Ground.data }], guard := none }) rfl (fun K hK => ?_) AllReady.nil
        go_simp
        have HG2 := Kp.mk (Blk.old HG1.out (.cells #[.slice (some ⟨C, 0, none⟩) m2 cC] 50))
        have GI2 := Kp.mk (GI1.out.below (more (Below.refl w1.heap.size w1) (.cells #[.slice (some ⟨C, 0, none⟩) m2 cC] 50)))
        have GB2 : Kp (Below A w (w1.alloc (.cells #[.slice (some ⟨C, 0, none⟩) m2 cC] 50)) ∧ A ≤ (w1.alloc (.cells #[.slice (some ⟨C, 0, none⟩) m2 cC] 50)).heap.size) := ⟨GB1.out.1.alloc GB1.out.2 _, by have := GB1.out.2; simp; omega⟩
        clear GI1 GB1 HG1
        refine hK _ _ ?_
        clear hK K
        try simp only [Act.put, List.setIfInBounds_toArray, List.set_cons_zero, List.set_cons_succ]
        refine wpAny_ready (rs := [18]) (by kernel_rfl) (by simp) ?_
        refine AllReady.cons (o := { dst := some 43, op := Go.Op.call { callee := Go.Callee.builtin Go.Builtin.append, args := #[Go.Operand.tmp 29, Go.Operand.tmp 42], argTypes := #[106, 106] }, type := 106, pos := "grove.go:39", after := #[{ on := 4, ground := Go.Ground.data }, { on := 17, ground := Go.Ground.data }, { on := 16, ground := Go.Ground.chain }], guard := none }) rfl (fun K hK => ?_) AllReady.nil
        obtain ⟨vs, h1, hvG, hel⟩ := GI2.out
        refine step_append_lies _ rfl (.tmp 29) (.tmp 42) 106 rfl A 50 i0 (.slice none 0 0) 1 24 Tryd.underlying106 hi hz0 hz1 hz2 rfl (by decide) (.slice (some ⟨R, 0, none⟩) (l + 1) cR) (l + 1) vs rfl (by rw [HLv.out] at h1; exact h1) ⟨w1.heap.size, 0, none⟩ 1 1 [.slice (some ⟨C, 0, none⟩) m2 cC] rfl rfl ?d0 ?d1 (by decide) ?d3 ?d4 GB2.out.2 (w1.heap.size + 1) ?d6 ?_
        case d0 => exact World.news_of_block (Blk.new w1 (.cells #[.slice (some ⟨C, 0, none⟩) m2 cC] 50))
        case d1 => intro u hu; simp only [List.mem_singleton] at hu; rw [hu]; rfl
        case d3 => unfold maxLen; omega
        case d4 => omega
        case d6 => simp
        intro g capN w3 ho hg hv hlt
        have GI3 : Kp (GrowIs w3 G A (.slice (some ⟨g, 0, none⟩) (l + 1 + 1) capN) (lvls5 d e L k (l + 1 + 1))) := ⟨by
          rw [lvls5_succ]
          exact GrowIs.more (n := l + 1) HLv.out h1 hvG hel (by rw [← HUp.out, upG_len]; omega) (by rw [← HUp.out]; exact fun j v hj => ((more (Below.refl w1.heap.size w1) _).cell (p := ⟨C, 0 + j, none⟩) HCr.out.1).trans (HCr.out.2 j v hj)) (by have := HCr.out.1; simp; omega) HCC.out.2.2 (by have := HCC.out; omega) (fun e => (by have e' : R = C := (by simpa [Value.ownBlock] using e); have := HCC.out; omega)) (by have := HG2.out.lt; simp at this ⊢; omega) ho hg (by simpa using hv)⟩
        have HG3 : Kp (Blk w3 G (.cells #[.slice (some ⟨R, 0, none⟩) (l + 1) cR] 108)) := ⟨(hg.block G HG2.out.lt (fun e => hvG e.symm)).trans HG2.out⟩
        have GB3 : Kp (Below A w w3 ∧ A ≤ w3.heap.size) := ⟨below_row_grown GB2.out.1 GB2.out.2 (by rw [HLv.out] at h1; exact h1) hg, Nat.le_trans GB2.out.2 hg.size⟩
        clear h1 hvG hel ho hg hv hlt GI2 HG2 GB2
        refine hK _ _ ?_
        clear hK K
        try simp only [Act.put, List.setIfInBounds_toArray, List.set_cons_zero, List.set_cons_succ]
        refine wpAny_take (i := 19) (oi := { dst := some 44, op := Go.Op.nilCheck (Go.Operand.tmp 25), type := 0, pos := "grove.go:39", after := #[{ on := 0, ground := Go.Ground.data }, { on := 0, ground := Go.Ground.phase }, { on := 1, ground := Go.Ground.phase }, { on := 2, ground := Go.Ground.phase }, { on := 3, ground := Go.Ground.phase }, { on := 4, ground := Go.Ground.phase }, { on := 5, ground := Go.Ground.phase }, { on := 6, ground := Go.Ground.phase }, { on := 7, ground := Go.Ground.phase }, { on := 8, ground := Go.Ground.phase }, { on := 9, ground := Go.Ground.phase }, { on := 10, ground := Go.Ground.phase }, { on := 11, ground := Go.Ground.phase }, { on := 12, ground := Go.Ground.phase }, { on := 13, ground := Go.Ground.phase }, { on := 14, ground := Go.Ground.phase }, { on := 15, ground := Go.Ground.phase }, { on := 16, ground := Go.Ground.phase }, { on := 17, ground := Go.Ground.phase }, { on := 18, ground := Go.Ground.phase }], guard := none }) (v := .pointer (some ⟨G, 0, none⟩)) rfl (by kernel_rfl) (by kernel_rfl) (by kernel_rfl) (fun _ _ _ h => h) (Or.inl ⟨by rfl, fun w => by first | rfl | go_simp⟩) ?_
        simp only [Act.put, List.setIfInBounds_toArray, List.set_cons_zero, List.set_cons_succ]
        refine wpAny_take (i := 20) (oi := { dst := some 45, op := Go.Op.fieldAddr 108 (Go.Operand.tmp 44) 0, type := 0, pos := "grove.go:39", after := #[{ on := 19, ground := Go.Ground.data }, { on := 0, ground := Go.Ground.phase }, { on := 1, ground := Go.Ground.phase }, { on := 2, ground := Go.Ground.phase }, { on := 3, ground := Go.Ground.phase }, { on := 4, ground := Go.Ground.phase }, { on := 5, ground := Go.Ground.phase }, { on := 6, ground := Go.Ground.phase }, { on := 7, ground := Go.Ground.phase }, { on := 8, ground := Go.Ground.phase }, { on := 9, ground := Go.Ground.phase }, { on := 10, ground := Go.Ground.phase }, { on := 11, ground := Go.Ground.phase }, { on := 12, ground := Go.Ground.phase }, { on := 13, ground := Go.Ground.phase }, { on := 14, ground := Go.Ground.phase }, { on := 15, ground := Go.Ground.phase }, { on := 16, ground := Go.Ground.phase }, { on := 17, ground := Go.Ground.phase }, { on := 18, ground := Go.Ground.phase }], guard := none }) (v := .pointer (some ⟨G, 0, none⟩)) rfl (by kernel_rfl) (by kernel_rfl) (by kernel_rfl) (fun _ _ _ h => h) (Or.inl ⟨by rfl, fun w => by first | rfl | go_simp⟩) ?_
        simp only [Act.put, List.setIfInBounds_toArray, List.set_cons_zero, List.set_cons_succ]
        refine wpAny_ready (rs := [21]) (by kernel_rfl) (by simp) ?_
        refine AllReady.cons (o := { dst := none, op := Go.Op.store 106 (Go.Operand.tmp 45) (Go.Operand.tmp 43), type := 0, pos := "grove.go:39", after := #[{ on := 20, ground := Go.Ground.data }, { on := 18, ground := Go.Ground.data }, { on := 18, ground := Go.Ground.chain }, { on := 0, ground := Go.Ground.phase }, { on := 1, ground := Go.Ground.phase }, { on := 2, ground := Go.Ground.phase }, { on := 3, ground := Go.Ground.phase }, { on := 4, ground := Go.Ground.phase }, { on := 5, ground := Go.Ground.phase }, { on := 6, ground := Go.Ground.phase }, { on := 7, ground := Go.Ground.phase }, { on := 8, ground := Go.Ground.phase }, { on := 9, ground := Go.Ground.phase }, { on := 10, ground := Go.Ground.phase }, { on := 11, ground := Go.Ground.phase }, { on := 12, ground := Go.Ground.phase }, { on := 13, ground := Go.Ground.phase }, { on := 14, ground := Go.Ground.phase }, { on := 15, ground := Go.Ground.phase }, { on := 16, ground := Go.Ground.phase }, { on := 17, ground := Go.Ground.phase }, { on := 18, ground := Go.Ground.phase }], guard := none }) rfl (fun K hK => ?_) AllReady.nil
        obtain ⟨q1, q2⟩ := HG3.out.one
        go_simp
        clear q1 q2
        refine hK _ _ ?_
        clear hK K
        try simp only [Act.put, List.setIfInBounds_toArray, List.set_cons_zero, List.set_cons_succ]
        refine wpAny_done (by kernel_rfl) ?_ _
        have GI4 := Kp.mk (GI3.out.set (.slice (some ⟨g, 0, none⟩) (l + 1 + 1) capN))
        have HG4 : Kp (Blk (w3.setCell ⟨G, 0, none⟩ (.slice (some ⟨g, 0, none⟩) (l + 1 + 1) capN)) G (.cells #[.slice (some ⟨g, 0, none⟩) (l + 1 + 1) capN] 108)) := ⟨HG3.out.set 0 _⟩
        have GB4 : Kp (Below A w (w3.setCell ⟨G, 0, none⟩ (.slice (some ⟨g, 0, none⟩) (l + 1 + 1) capN)) ∧ A ≤ (w3.setCell ⟨G, 0, none⟩ (.slice (some ⟨g, 0, none⟩) (l + 1 + 1) capN)).heap.size) := ⟨GB3.out.1.setCell (by have := HGA.out; show A ≤ G; omega) _, by simpa [World.setCell] using GB3.out.2⟩
        clear GI3 HG3 GB3
        go_wp2_with fail
        exact ⟨⟨l + 1, .slice (some ⟨g, 0, none⟩) (l + 1 + 1) capN, by omega, by go_num, HG4, GI4, GB4⟩, by simp [intOf]; omega⟩
      · have q2 : (World.drew wr).cell? ⟨G, 0, none⟩ = some (.slice (some ⟨R, 0, none⟩) (l + 1) cR) := HG0.out.cell 0
        go_simp
        clear q2
        refine hK _ _ ?_
        clear hK K
        try simp only [Act.put, List.setIfInBounds_toArray, List.set_cons_zero, List.set_cons_succ]
        refine wpAny_take (i := 14) (oi := { dst := some 39, op := Go.Op.indexAddr 106 (Go.Operand.tmp 37) (Go.Operand.tmp 38), type := 0, pos := "grove.go:39", after := #[{ on := 12, ground := Go.Ground.data }, { on := 13, ground := Go.Ground.data }], guard := none }) (v := .pointer (some ⟨R, l, none⟩)) rfl (by kernel_rfl) (by kernel_rfl) (by kernel_rfl) (fun _ _ _ h => h) (Or.inl ⟨by rfl, fun w => exec_idx137 (x := .tmp 37) (y := .tmp 38) (R := R) (n := l + 1) (cap := cR) (j := l) rfl rfl rfl rfl (by omega)⟩) ?_
        simp only [Act.put, List.setIfInBounds_toArray, List.set_cons_zero, List.set_cons_succ]
        refine wpAny_ready (rs := [4, 15]) (by kernel_rfl) (by simp) ?_
        refine AllReady.cons (o := { dst := some 29, op := Go.Op.load 106 (Go.Operand.tmp 28), type := 106, pos := "grove.go:39", after := #[{ on := 3, ground := Go.Ground.data }], guard := none }) rfl (fun K hK => ?_) (AllReady.cons (o := { dst := some 40, op := Go.Op.load 50 (Go.Operand.tmp 39), type := 50, pos := "grove.go:39", after := #[{ on := 14, ground := Go.Ground.data }], guard := none }) rfl (fun K hK => ?_) AllReady.nil)
        · have q2 : (World.drew wr).cell? ⟨G, 0, none⟩ = some (.slice (some ⟨R, 0, none⟩) (l + 1) cR) := HG0.out.cell 0
          go_simp
          clear q2
          refine hK _ _ ?_
          clear hK K
          try simp only [Act.put, List.setIfInBounds_toArray, List.set_cons_zero, List.set_cons_succ]
          refine wpAny_ready (rs := [15]) (by kernel_rfl) (by simp) ?_
          refine AllReady.cons (o := { dst := some 40, op := Go.Op.load 50 (Go.Operand.tmp 39), type := 50, pos := "grove.go:39", after := #[{ on := 14, ground := Go.Ground.data }], guard := none }) rfl (fun K hK => ?_) AllReady.nil
          have q2 : (World.drew wr).cell? ⟨R, l, none⟩ = some (.slice (some ⟨B, 0, none⟩) n2 cB) := HC0.out
          go_simp
          clear q2
          refine hK _ _ ?_
          clear hK K
          try simp only [Act.put, List.setIfInBounds_toArray, List.set_cons_zero, List.set_cons_succ]
          refine wpAny_ready (rs := [16]) (by kernel_rfl) (by simp) ?_
          refine AllReady.cons (o := { dst := some 41, op := Go.Op.call { callee := Go.Callee.value (Go.Operand.func 56), args := #[Go.Operand.tmp 30, Go.Operand.tmp 31, Go.Operand.tmp 33, Go.Operand.tmp 40], argTypes := #[3, 25, 3, 50] }, type := 50, pos := "grove.go:39", after := #[{ on := 5, ground := Go.Ground.data }, { on := 6, ground := Go.Ground.data }, { on := 8, ground := Go.Ground.data }, { on := 15, ground := Go.Ground.data }], guard := none }) rfl (fun K hK => ?_) AllReady.nil
          go_simp
          refine (halved_any d e ((l : Int) + 1) p n2 m2 B cB _ (HK.out.keep (by rw [← HA.out]; exact GB0.out.1)) HE.out HPl.out HPb.out HN2.out (by have := HM2.out; omega) HRg0.out.1 HRg0.out.2).mono ?_
          rintro r w1 ⟨vh, rfl, ho, hb⟩
          obtain ⟨C, cC, rfl, hC1, hC2, hCr⟩ := own_range ho HM2.out.1
          have HG1 := Kp.mk (HG0.out.keep hb)
          have GI1 := Kp.mk (GI0.out.below hb)
          have GB1 : Kp (Below A w w1 ∧ A ≤ w1.heap.size) := ⟨GB0.out.1.trans (hb.mono GB0.out.2), Nat.le_trans GB0.out.2 hb.size⟩
          have HCC : Kp (R < C ∧ G < C ∧ A ≤ C) := ⟨by have := HRl.out; have := HG0.out.lt; have h3 : (World.drew wr).heap.size ≤ C := hC1; have h4 : wr.heap.size = (World.drew wr).heap.size := rfl; have h5 := GB0.out.2; omega⟩
          have HCr := Kp.mk (And.intro hC2 hCr)
          clear ho hb hC1 hC2 hCr GI0 GB0 HRg0 HC0
          clear HG0
          refine hK _ _ ?_
          clear hK K
          try simp only [Act.put, List.setIfInBounds_toArray, List.set_cons_zero, List.set_cons_succ]
          refine wpAny_ready (rs := [17]) (by kernel_rfl) (by simp) ?_
          refine AllReady.cons (o := { dst := some 42, op := Go.Op.buildSlice 106 1 #[(0, Go.Operand.tmp 41)], type := 106, pos := "grove.go:39", after := #[{ on := 16, ground := Go.Ground.data }], guard := none }) rfl (fun K hK => ?_) AllReady.nil
          go_simp
          have HG2 := Kp.mk (Blk.old HG1.out (.cells #[.slice (some ⟨C, 0, none⟩) m2 cC] 50))
          have GI2 := Kp.mk (GI1.out.below (more (Below.refl w1.heap.size w1) (.cells #[.slice (some ⟨C, 0, none⟩) m2 cC] 50)))
          have GB2 : Kp (Below A w (w1.alloc (.cells #[.slice (some ⟨C, 0, none⟩) m2 cC] 50)) ∧ A ≤ (w1.alloc (.cells #[.slice (some ⟨C, 0, none⟩) m2 cC] 50)).heap.size) := ⟨GB1.out.1.alloc GB1.out.2 _, by have := GB1.out.2; simp; omega⟩
          clear GI1 GB1 HG1
          refine hK _ _ ?_
          clear hK K
          try simp only [Act.put, List.setIfInBounds_toArray, List.set_cons_zero, List.set_cons_succ]
          refine wpAny_ready (rs := [18]) (by kernel_rfl) (by simp) ?_
          refine AllReady.cons (o := { dst := some 43, op := Go.Op.call { callee := Go.Callee.builtin Go.Builtin.append, args := #[Go.Operand.tmp 29, Go.Operand.tmp 42], argTypes := #[106, 106] }, type := 106, pos := "grove.go:39", after := #[{ on := 4, ground := Go.Ground.data }, { on := 17, ground := Go.Ground.data }, { on := 16, ground := Go.Ground.chain }], guard := none }) rfl (fun K hK => ?_) AllReady.nil
          obtain ⟨vs, h1, hvG, hel⟩ := GI2.out
          refine step_append_lies _ rfl (.tmp 29) (.tmp 42) 106 rfl A 50 i0 (.slice none 0 0) 1 24 Tryd.underlying106 hi hz0 hz1 hz2 rfl (by decide) (.slice (some ⟨R, 0, none⟩) (l + 1) cR) (l + 1) vs rfl (by rw [HLv.out] at h1; exact h1) ⟨w1.heap.size, 0, none⟩ 1 1 [.slice (some ⟨C, 0, none⟩) m2 cC] rfl rfl ?d0 ?d1 (by decide) ?d3 ?d4 GB2.out.2 (w1.heap.size + 1) ?d6 ?_
          case d0 => exact World.news_of_block (Blk.new w1 (.cells #[.slice (some ⟨C, 0, none⟩) m2 cC] 50))
          case d1 => intro u hu; simp only [List.mem_singleton] at hu; rw [hu]; rfl
          case d3 => unfold maxLen; omega
          case d4 => omega
          case d6 => simp
          intro g capN w3 ho hg hv hlt
          have GI3 : Kp (GrowIs w3 G A (.slice (some ⟨g, 0, none⟩) (l + 1 + 1) capN) (lvls5 d e L k (l + 1 + 1))) := ⟨by
            rw [lvls5_succ]
            exact GrowIs.more (n := l + 1) HLv.out h1 hvG hel (by rw [← HUp.out, upG_len]; omega) (by rw [← HUp.out]; exact fun j v hj => ((more (Below.refl w1.heap.size w1) _).cell (p := ⟨C, 0 + j, none⟩) HCr.out.1).trans (HCr.out.2 j v hj)) (by have := HCr.out.1; simp; omega) HCC.out.2.2 (by have := HCC.out; omega) (fun e => (by have e' : R = C := (by simpa [Value.ownBlock] using e); have := HCC.out; omega)) (by have := HG2.out.lt; simp at this ⊢; omega) ho hg (by simpa using hv)⟩
          have HG3 : Kp (Blk w3 G (.cells #[.slice (some ⟨R, 0, none⟩) (l + 1) cR] 108)) := ⟨(hg.block G HG2.out.lt (fun e => hvG e.symm)).trans HG2.out⟩
          have GB3 : Kp (Below A w w3 ∧ A ≤ w3.heap.size) := ⟨below_row_grown GB2.out.1 GB2.out.2 (by rw [HLv.out] at h1; exact h1) hg, Nat.le_trans GB2.out.2 hg.size⟩
          clear h1 hvG hel ho hg hv hlt GI2 HG2 GB2
          refine hK _ _ ?_
          clear hK K
          try simp only [Act.put, List.setIfInBounds_toArray, List.set_cons_zero, List.set_cons_succ]
          refine wpAny_take (i := 19) (oi := { dst := some 44, op := Go.Op.nilCheck (Go.Operand.tmp 25), type := 0, pos := "grove.go:39", after := #[{ on := 0, ground := Go.Ground.data }, { on := 0, ground := Go.Ground.phase }, { on := 1, ground := Go.Ground.phase }, { on := 2, ground := Go.Ground.phase }, { on := 3, ground := Go.Ground.phase }, { on := 4, ground := Go.Ground.phase }, { on := 5, ground := Go.Ground.phase }, { on := 6, ground := Go.Ground.phase }, { on := 7, ground := Go.Ground.phase }, { on := 8, ground := Go.Ground.phase }, { on := 9, ground := Go.Ground.phase }, { on := 10, ground := Go.Ground.phase }, { on := 11, ground := Go.Ground.phase }, { on := 12, ground := Go.Ground.phase }, { on := 13, ground := Go.Ground.phase }, { on := 14, ground := Go.Ground.phase }, { on := 15, ground := Go.Ground.phase }, { on := 16, ground := Go.Ground.phase }, { on := 17, ground := Go.Ground.phase }, { on := 18, ground := Go.Ground.phase }], guard := none }) (v := .pointer (some ⟨G, 0, none⟩)) rfl (by kernel_rfl) (by kernel_rfl) (by kernel_rfl) (fun _ _ _ h => h) (Or.inl ⟨by rfl, fun w => by first | rfl | go_simp⟩) ?_
          simp only [Act.put, List.setIfInBounds_toArray, List.set_cons_zero, List.set_cons_succ]
          refine wpAny_take (i := 20) (oi := { dst := some 45, op := Go.Op.fieldAddr 108 (Go.Operand.tmp 44) 0, type := 0, pos := "grove.go:39", after := #[{ on := 19, ground := Go.Ground.data }, { on := 0, ground := Go.Ground.phase }, { on := 1, ground := Go.Ground.phase }, { on := 2, ground := Go.Ground.phase }, { on := 3, ground := Go.Ground.phase }, { on := 4, ground := Go.Ground.phase }, { on := 5, ground := Go.Ground.phase }, { on := 6, ground := Go.Ground.phase }, { on := 7, ground := Go.Ground.phase }, { on := 8, ground := Go.Ground.phase }, { on := 9, ground := Go.Ground.phase }, { on := 10, ground := Go.Ground.phase }, { on := 11, ground := Go.Ground.phase }, { on := 12, ground := Go.Ground.phase }, { on := 13, ground := Go.Ground.phase }, { on := 14, ground := Go.Ground.phase }, { on := 15, ground := Go.Ground.phase }, { on := 16, ground := Go.Ground.phase }, { on := 17, ground := Go.Ground.phase }, { on := 18, ground := Go.Ground.phase }], guard := none }) (v := .pointer (some ⟨G, 0, none⟩)) rfl (by kernel_rfl) (by kernel_rfl) (by kernel_rfl) (fun _ _ _ h => h) (Or.inl ⟨by rfl, fun w => by first | rfl | go_simp⟩) ?_
          simp only [Act.put, List.setIfInBounds_toArray, List.set_cons_zero, List.set_cons_succ]
          refine wpAny_ready (rs := [21]) (by kernel_rfl) (by simp) ?_
          refine AllReady.cons (o := { dst := none, op := Go.Op.store 106 (Go.Operand.tmp 45) (Go.Operand.tmp 43), type := 0, pos := "grove.go:39", after := #[{ on := 20, ground := Go.Ground.data }, { on := 18, ground := Go.Ground.data }, { on := 18, ground := Go.Ground.chain }, { on := 0, ground := Go.Ground.phase }, { on := 1, ground := Go.Ground.phase }, { on := 2, ground := Go.Ground.phase }, { on := 3, ground := Go.Ground.phase }, { on := 4, ground := Go.Ground.phase }, { on := 5, ground := Go.Ground.phase }, { on := 6, ground := Go.Ground.phase }, { on := 7, ground := Go.Ground.phase }, { on := 8, ground := Go.Ground.phase }, { on := 9, ground := Go.Ground.phase }, { on := 10, ground := Go.Ground.phase }, { on := 11, ground := Go.Ground.phase }, { on := 12, ground := Go.Ground.phase }, { on := 13, ground := Go.Ground.phase }, { on := 14, ground := Go.Ground.phase }, { on := 15, ground := Go.Ground.phase }, { on := 16, ground := Go.Ground.phase }, { on := 17, ground := Go.Ground.phase }, { on := 18, ground := Go.Ground.phase }], guard := none }) rfl (fun K hK => ?_) AllReady.nil
          obtain ⟨q1, q2⟩ := HG3.out.one
          go_simp
          clear q1 q2
          refine hK _ _ ?_
          clear hK K
          try simp only [Act.put, List.setIfInBounds_toArray, List.set_cons_zero, List.set_cons_succ]
          refine wpAny_done (by kernel_rfl) ?_ _
          have GI4 := Kp.mk (GI3.out.set (.slice (some ⟨g, 0, none⟩) (l + 1 + 1) capN))
          have HG4 : Kp (Blk (w3.setCell ⟨G, 0, none⟩ (.slice (some ⟨g, 0, none⟩) (l + 1 + 1) capN)) G (.cells #[.slice (some ⟨g, 0, none⟩) (l + 1 + 1) capN] 108)) := ⟨HG3.out.set 0 _⟩
          have GB4 : Kp (Below A w (w3.setCell ⟨G, 0, none⟩ (.slice (some ⟨g, 0, none⟩) (l + 1 + 1) capN)) ∧ A ≤ (w3.setCell ⟨G, 0, none⟩ (.slice (some ⟨g, 0, none⟩) (l + 1 + 1) capN)).heap.size) := ⟨GB3.out.1.setCell (by have := HGA.out; show A ≤ G; omega) _, by simpa [World.setCell] using GB3.out.2⟩
          clear GI3 HG3 GB3
          go_wp2_with fail
          exact ⟨⟨l + 1, .slice (some ⟨g, 0, none⟩) (l + 1 + 1) capN, by omega, by go_num, HG4, GI4, GB4⟩, by simp [intOf]; omega⟩
        · have q2 : (World.drew wr).cell? ⟨R, l, none⟩ = some (.slice (some ⟨B, 0, none⟩) n2 cB) := HC0.out
          go_simp
          clear q2
          refine hK _ _ ?_
          clear hK K
          try simp only [Act.put, List.setIfInBounds_toArray, List.set_cons_zero, List.set_cons_succ]
          refine wpAny_ready (rs := [4, 16]) (by kernel_rfl) (by simp) ?_
          refine AllReady.cons (o := { dst := some 29, op := Go.Op.load 106 (Go.Operand.tmp 28), type := 106, pos := "grove.go:39", after := #[{ on := 3, ground := Go.Ground.data }], guard := none }) rfl (fun K hK => ?_) (AllReady.cons (o := { dst := some 41, op := Go.Op.call { callee := Go.Callee.value (Go.Operand.func 56), args := #[Go.Operand.tmp 30, Go.Operand.tmp 31, Go.Operand.tmp 33, Go.Operand.tmp 40], argTypes := #[3, 25, 3, 50] }, type := 50, pos := "grove.go:39", after := #[{ on := 5, ground := Go.Ground.data }, { on := 6, ground := Go.Ground.data }, { on := 8, ground := Go.Ground.data }, { on := 15, ground := Go.Ground.data }], guard := none }) rfl (fun K hK => ?_) AllReady.nil)
          · have q2 : (World.drew wr).cell? ⟨G, 0, none⟩ = some (.slice (some ⟨R, 0, none⟩) (l + 1) cR) := HG0.out.cell 0
            go_simp
            clear q2
            refine hK _ _ ?_
            clear hK K
            try simp only [Act.put, List.setIfInBounds_toArray, List.set_cons_zero, List.set_cons_succ]
            refine wpAny_ready (rs := [16]) (by kernel_rfl) (by simp) ?_
            refine AllReady.cons (o := { dst := some 41, op := Go.Op.call { callee := Go.Callee.value (Go.Operand.func 56), args := #[Go.Operand.tmp 30, Go.Operand.tmp 31, Go.Operand.tmp 33, Go.Operand.tmp 40], argTypes := #[3, 25, 3, 50] }, type := 50, pos := "grove.go:39", after := #[{ on := 5, ground := Go.Ground.data }, { on := 6, ground := Go.Ground.data }, { on := 8, ground := Go.Ground.data }, { on := 15, ground := Go.Ground.data }], guard := none }) rfl (fun K hK => ?_) AllReady.nil
            go_simp
            refine (halved_any d e ((l : Int) + 1) p n2 m2 B cB _ (HK.out.keep (by rw [← HA.out]; exact GB0.out.1)) HE.out HPl.out HPb.out HN2.out (by have := HM2.out; omega) HRg0.out.1 HRg0.out.2).mono ?_
            rintro r w1 ⟨vh, rfl, ho, hb⟩
            obtain ⟨C, cC, rfl, hC1, hC2, hCr⟩ := own_range ho HM2.out.1
            have HG1 := Kp.mk (HG0.out.keep hb)
            have GI1 := Kp.mk (GI0.out.below hb)
            have GB1 : Kp (Below A w w1 ∧ A ≤ w1.heap.size) := ⟨GB0.out.1.trans (hb.mono GB0.out.2), Nat.le_trans GB0.out.2 hb.size⟩
            have HCC : Kp (R < C ∧ G < C ∧ A ≤ C) := ⟨by have := HRl.out; have := HG0.out.lt; have h3 : (World.drew wr).heap.size ≤ C := hC1; have h4 : wr.heap.size = (World.drew wr).heap.size := rfl; have h5 := GB0.out.2; omega⟩
            have HCr := Kp.mk (And.intro hC2 hCr)
            clear ho hb hC1 hC2 hCr GI0 GB0 HRg0 HC0
            clear HG0
            refine hK _ _ ?_
            clear hK K
            try simp only [Act.put, List.setIfInBounds_toArray, List.set_cons_zero, List.set_cons_succ]
            refine wpAny_ready (rs := [17]) (by kernel_rfl) (by simp) ?_
            refine AllReady.cons (o := { dst := some 42, op := Go.Op.buildSlice 106 1 #[(0, Go.Operand.tmp 41)], type := 106, pos := "grove.go:39", after := #[{ on := 16, ground := Go.Ground.data }], guard := none }) rfl (fun K hK => ?_) AllReady.nil
            go_simp
            have HG2 := Kp.mk (Blk.old HG1.out (.cells #[.slice (some ⟨C, 0, none⟩) m2 cC] 50))
            have GI2 := Kp.mk (GI1.out.below (more (Below.refl w1.heap.size w1) (.cells #[.slice (some ⟨C, 0, none⟩) m2 cC] 50)))
            have GB2 : Kp (Below A w (w1.alloc (.cells #[.slice (some ⟨C, 0, none⟩) m2 cC] 50)) ∧ A ≤ (w1.alloc (.cells #[.slice (some ⟨C, 0, none⟩) m2 cC] 50)).heap.size) := ⟨GB1.out.1.alloc GB1.out.2 _, by have := GB1.out.2; simp; omega⟩
            clear GI1 GB1 HG1
            refine hK _ _ ?_
            clear hK K
            try simp only [Act.put, List.setIfInBounds_toArray, List.set_cons_zero, List.set_cons_succ]
            refine wpAny_ready (rs := [18]) (by kernel_rfl) (by simp) ?_
            refine AllReady.cons (o := { dst := some 43, op := Go.Op.call { callee := Go.Callee.builtin Go.Builtin.append, args := #[Go.Operand.tmp 29, Go.Operand.tmp 42], argTypes := #[106, 106] }, type := 106, pos := "grove.go:39", after := #[{ on := 4, ground := Go.Ground.data }, { on := 17, ground := Go.Ground.data }, { on := 16, ground := Go.Ground.chain }], guard := none }) rfl (fun K hK => ?_) AllReady.nil
            obtain ⟨vs, h1, hvG, hel⟩ := GI2.out
            refine step_append_lies _ rfl (.tmp 29) (.tmp 42) 106 rfl A 50 i0 (.slice none 0 0) 1 24 Tryd.underlying106 hi hz0 hz1 hz2 rfl (by decide) (.slice (some ⟨R, 0, none⟩) (l + 1) cR) (l + 1) vs rfl (by rw [HLv.out] at h1; exact h1) ⟨w1.heap.size, 0, none⟩ 1 1 [.slice (some ⟨C, 0, none⟩) m2 cC] rfl rfl ?d0 ?d1 (by decide) ?d3 ?d4 GB2.out.2 (w1.heap.size + 1) ?d6 ?_
            case d0 => exact World.news_of_block (Blk.new w1 (.cells #[.slice (some ⟨C, 0, none⟩) m2 cC] 50))
            case d1 => intro u hu; simp only [List.mem_singleton] at hu; rw [hu]; rfl
            case d3 => unfold maxLen; omega
            case d4 => omega
            case d6 => simp
            intro g capN w3 ho hg hv hlt
            have GI3 : Kp (GrowIs w3 G A (.slice (some ⟨g, 0, none⟩) (l + 1 + 1) capN) (lvls5 d e L k (l + 1 + 1))) := ⟨by
              rw [lvls5_succ]
              exact GrowIs.more (n := l + 1) HLv.out h1 hvG hel (by rw [← HUp.out, upG_len]; omega) (by rw [← HUp.out]; exact fun j v hj => ((more (Below.refl w1.heap.size w1) _).cell (p := ⟨C, 0 + j, none⟩) HCr.out.1).trans (HCr.out.2 j v hj)) (by have := HCr.out.1; simp; omega) HCC.out.2.2 (by have := HCC.out; omega) (fun e => (by have e' : R = C := (by simpa [Value.ownBlock] using e); have := HCC.out; omega)) (by have := HG2.out.lt; simp at this ⊢; omega) ho hg (by simpa using hv)⟩
            have HG3 : Kp (Blk w3 G (.cells #[.slice (some ⟨R, 0, none⟩) (l + 1) cR] 108)) := ⟨(hg.block G HG2.out.lt (fun e => hvG e.symm)).trans HG2.out⟩
            have GB3 : Kp (Below A w w3 ∧ A ≤ w3.heap.size) := ⟨below_row_grown GB2.out.1 GB2.out.2 (by rw [HLv.out] at h1; exact h1) hg, Nat.le_trans GB2.out.2 hg.size⟩
            clear h1 hvG hel ho hg hv hlt GI2 HG2 GB2
            refine hK _ _ ?_
            clear hK K
            try simp only [Act.put, List.setIfInBounds_toArray, List.set_cons_zero, List.set_cons_succ]
            refine wpAny_take (i := 19) (oi := { dst := some 44, op := Go.Op.nilCheck (Go.Operand.tmp 25), type := 0, pos := "grove.go:39", after := #[{ on := 0, ground := Go.Ground.data }, { on := 0, ground := Go.Ground.phase }, { on := 1, ground := Go.Ground.phase }, { on := 2, ground := Go.Ground.phase }, { on := 3, ground := Go.Ground.phase }, { on := 4, ground := Go.Ground.phase }, { on := 5, ground := Go.Ground.phase }, { on := 6, ground := Go.Ground.phase }, { on := 7, ground := Go.Ground.phase }, { on := 8, ground := Go.Ground.phase }, { on := 9, ground := Go.Ground.phase }, { on := 10, ground := Go.Ground.phase }, { on := 11, ground := Go.Ground.phase }, { on := 12, ground := Go.Ground.phase }, { on := 13, ground := Go.Ground.phase }, { on := 14, ground := Go.Ground.phase }, { on := 15, ground := Go.Ground.phase }, { on := 16, ground := Go.Ground.phase }, { on := 17, ground := Go.Ground.phase }, { on := 18, ground := Go.Ground.phase }], guard := none }) (v := .pointer (some ⟨G, 0, none⟩)) rfl (by kernel_rfl) (by kernel_rfl) (by kernel_rfl) (fun _ _ _ h => h) (Or.inl ⟨by rfl, fun w => by first | rfl | go_simp⟩) ?_
            simp only [Act.put, List.setIfInBounds_toArray, List.set_cons_zero, List.set_cons_succ]
            refine wpAny_take (i := 20) (oi := { dst := some 45, op := Go.Op.fieldAddr 108 (Go.Operand.tmp 44) 0, type := 0, pos := "grove.go:39", after := #[{ on := 19, ground := Go.Ground.data }, { on := 0, ground := Go.Ground.phase }, { on := 1, ground := Go.Ground.phase }, { on := 2, ground := Go.Ground.phase }, { on := 3, ground := Go.Ground.phase }, { on := 4, ground := Go.Ground.phase }, { on := 5, ground := Go.Ground.phase }, { on := 6, ground := Go.Ground.phase }, { on := 7, ground := Go.Ground.phase }, { on := 8, ground := Go.Ground.phase }, { on := 9, ground := Go.Ground.phase }, { on := 10, ground := Go.Ground.phase }, { on := 11, ground := Go.Ground.phase }, { on := 12, ground := Go.Ground.phase }, { on := 13, ground := Go.Ground.phase }, { on := 14, ground := Go.Ground.phase }, { on := 15, ground := Go.Ground.phase }, { on := 16, ground := Go.Ground.phase }, { on := 17, ground := Go.Ground.phase }, { on := 18, ground := Go.Ground.phase }], guard := none }) (v := .pointer (some ⟨G, 0, none⟩)) rfl (by kernel_rfl) (by kernel_rfl) (by kernel_rfl) (fun _ _ _ h => h) (Or.inl ⟨by rfl, fun w => by first | rfl | go_simp⟩) ?_
            simp only [Act.put, List.setIfInBounds_toArray, List.set_cons_zero, List.set_cons_succ]
            refine wpAny_ready (rs := [21]) (by kernel_rfl) (by simp) ?_
            refine AllReady.cons (o := { dst := none, op := Go.Op.store 106 (Go.Operand.tmp 45) (Go.Operand.tmp 43), type := 0, pos := "grove.go:39", after := #[{ on := 20, ground := Go.Ground.data }, { on := 18, ground := Go.Ground.data }, { on := 18, ground := Go.Ground.chain }, { on := 0, ground := Go.Ground.phase }, { on := 1, ground := Go.Ground.phase }, { on := 2, ground := Go.Ground.phase }, { on := 3, ground := Go.Ground.phase }, { on := 4, ground := Go.Ground.phase }, { on := 5, ground := Go.Ground.phase }, { on := 6, ground := Go.Ground.phase }, { on := 7, ground := Go.Ground.phase }, { on := 8, ground := Go.Ground.phase }, { on := 9, ground := Go.Ground.phase }, { on := 10, ground := Go.Ground.phase }, { on := 11, ground := Go.Ground.phase }, { on := 12, ground := Go.Ground.phase }, { on := 13, ground := Go.Ground.phase }, { on := 14, ground := Go.Ground.phase }, { on := 15, ground := Go.Ground.phase }, { on := 16, ground := Go.Ground.phase }, { on := 17, ground := Go.Ground.phase }, { on := 18, ground := Go.Ground.phase }], guard := none }) rfl (fun K hK => ?_) AllReady.nil
            obtain ⟨q1, q2⟩ := HG3.out.one
            go_simp
            clear q1 q2
            refine hK _ _ ?_
            clear hK K
            try simp only [Act.put, List.setIfInBounds_toArray, List.set_cons_zero, List.set_cons_succ]
            refine wpAny_done (by kernel_rfl) ?_ _
            have GI4 := Kp.mk (GI3.out.set (.slice (some ⟨g, 0, none⟩) (l + 1 + 1) capN))
            have HG4 : Kp (Blk (w3.setCell ⟨G, 0, none⟩ (.slice (some ⟨g, 0, none⟩) (l + 1 + 1) capN)) G (.cells #[.slice (some ⟨g, 0, none⟩) (l + 1 + 1) capN] 108)) := ⟨HG3.out.set 0 _⟩
            have GB4 : Kp (Below A w (w3.setCell ⟨G, 0, none⟩ (.slice (some ⟨g, 0, none⟩) (l + 1 + 1) capN)) ∧ A ≤ (w3.setCell ⟨G, 0, none⟩ (.slice (some ⟨g, 0, none⟩) (l + 1 + 1) capN)).heap.size) := ⟨GB3.out.1.setCell (by have := HGA.out; show A ≤ G; omega) _, by simpa [World.setCell] using GB3.out.2⟩
            clear GI3 HG3 GB3
            go_wp2_with fail
            exact ⟨⟨l + 1, .slice (some ⟨g, 0, none⟩) (l + 1 + 1) capN, by omega, by go_num, HG4, GI4, GB4⟩, by simp [intOf]; omega⟩
          · go_simp
            refine (halved_any d e ((l : Int) + 1) p n2 m2 B cB _ (HK.out.keep (by rw [← HA.out]; exact GB0.out.1)) HE.out HPl.out HPb.out HN2.out (by have := HM2.out; omega) HRg0.out.1 HRg0.out.2).mono ?_
            rintro r w1 ⟨vh, rfl, ho, hb⟩
            obtain ⟨C, cC, rfl, hC1, hC2, hCr⟩ := own_range ho HM2.out.1
            have HG1 := Kp.mk (HG0.out.keep hb)
            have GI1 := Kp.mk (GI0.out.below hb)
            have GB1 : Kp (Below A w w1 ∧ A ≤ w1.heap.size) := ⟨GB0.out.1.trans (hb.mono GB0.out.2), Nat.le_trans GB0.out.2 hb.size⟩
            have HCC : Kp (R < C ∧ G < C ∧ A ≤ C) := ⟨by have := HRl.out; have := HG0.out.lt; have h3 : (World.drew wr).heap.size ≤ C := hC1; have h4 : wr.heap.size = (World.drew wr).heap.size := rfl; have h5 := GB0.out.2; omega⟩
            have HCr := Kp.mk (And.intro hC2 hCr)
            clear ho hb hC1 hC2 hCr GI0 GB0 HRg0 HC0
            clear HG0
            refine hK _ _ ?_
            clear hK K
            try simp only [Act.put, List.setIfInBounds_toArray, List.set_cons_zero, List.set_cons_succ]
            refine wpAny_ready (rs := [4, 17]) (by kernel_rfl) (by simp) ?_
            refine AllReady.cons (o := { dst := some 29, op := Go.Op.load 106 (Go.Operand.tmp 28), type := 106, pos := "grove.go:39", after := #[{ on := 3, ground := Go.Ground.data }], guard := none }) rfl (fun K hK => ?_) (AllReady.cons (o := { dst := some 42, op := Go.Op.buildSlice 106 1 #[(0, Go.Operand.tmp 41)], type := 106, pos := "grove.go:39", after := #[{ on := 16, ground := Go.Ground.data }], guard := none }) rfl (fun K hK => ?_) AllReady.nil)
            · have q2 : w1.cell? ⟨G, 0, none⟩ = some (.slice (some ⟨R, 0, none⟩) (l + 1) cR) := HG1.out.cell 0
              go_simp
              clear q2
              refine hK _ _ ?_
              clear hK K
              try simp only [Act.put, List.setIfInBounds_toArray, List.set_cons_zero, List.set_cons_succ]
              refine wpAny_ready (rs := [17]) (by kernel_rfl) (by simp) ?_
              refine AllReady.cons (o := { dst := some 42, op := Go.Op.buildSlice 106 1 #[(0, Go.Operand.tmp 41)], type := 106, pos := "grove.go:39", after := #[{ on := 16, ground := Go.Ground.data }], guard := none }) rfl (fun K hK => ?_) AllReady.nil
              go_simp
              have HG2 := Kp.mk (Blk.old HG1.out (.cells #[.slice (some ⟨C, 0, none⟩) m2 cC] 50))
              have GI2 := Kp.mk (GI1.out.below (more (Below.refl w1.heap.size w1) (.cells #[.slice (some ⟨C, 0, none⟩) m2 cC] 50)))
              have GB2 : Kp (Below A w (w1.alloc (.cells #[.slice (some ⟨C, 0, none⟩) m2 cC] 50)) ∧ A ≤ (w1.alloc (.cells #[.slice (some ⟨C, 0, none⟩) m2 cC] 50)).heap.size) := ⟨GB1.out.1.alloc GB1.out.2 _, by have := GB1.out.2; simp; omega⟩
              clear GI1 GB1 HG1
              refine hK _ _ ?_
              clear hK K
              try simp only [Act.put, List.setIfInBounds_toArray, List.set_cons_zero, List.set_cons_succ]
              refine wpAny_ready (rs := [18]) (by kernel_rfl) (by simp) ?_
              refine AllReady.cons (o := { dst := some 43, op := Go.Op.call { callee := Go.Callee.builtin Go.Builtin.append, args := #[Go.Operand.tmp 29, Go.Operand.tmp 42], argTypes := #[106, 106] }, type := 106, pos := "grove.go:39", after := #[{ on := 4, ground := Go.Ground.data }, { on := 17, ground := Go.Ground.data }, { on := 16, ground := Go.Ground.chain }], guard := none }) rfl (fun K hK => ?_) AllReady.nil
              obtain ⟨vs, h1, hvG, hel⟩ := GI2.out
              refine step_append_lies _ rfl (.tmp 29) (.tmp 42) 106 rfl A 50 i0 (.slice none 0 0) 1 24 Tryd.underlying106 hi hz0 hz1 hz2 rfl (by decide) (.slice (some ⟨R, 0, none⟩) (l + 1) cR) (l + 1) vs rfl (by rw [HLv.out] at h1; exact h1) ⟨w1.heap.size, 0, none⟩ 1 1 [.slice (some ⟨C, 0, none⟩) m2 cC] rfl rfl ?d0 ?d1 (by decide) ?d3 ?d4 GB2.out.2 (w1.heap.size + 1) ?d6 ?_
              case d0 => exact World.news_of_block (Blk.new w1 (.cells #[.slice (some ⟨C, 0, none⟩) m2 cC] 50))
              case d1 => intro u hu; simp only [List.mem_singleton] at hu; rw [hu]; rfl
              case d3 => unfold maxLen; omega
              case d4 => omega
              case d6 => simp
              intro g capN w3 ho hg hv hlt
              have GI3 : Kp (GrowIs w3 G A (.slice (some ⟨g, 0, none⟩) (l + 1 + 1) capN) (lvls5 d e L k (l + 1 + 1))) := ⟨by
                rw [lvls5_succ]
                exact GrowIs.more (n := l + 1) HLv.out h1 hvG hel (by rw [← HUp.out, upG_len]; omega) (by rw [← HUp.out]; exact fun j v hj => ((more (Below.refl w1.heap.size w1) _).cell (p := ⟨C, 0 + j, none⟩) HCr.out.1).trans (HCr.out.2 j v hj)) (by have := HCr.out.1; simp; omega) HCC.out.2.2 (by have := HCC.out; omega) (fun e => (by have e' : R = C := (by simpa [Value.ownBlock] using e); have := HCC.out; omega)) (by have := HG2.out.lt; simp at this ⊢; omega) ho hg (by simpa using hv)⟩
              have HG3 : Kp (Blk w3 G (.cells #[.slice (some ⟨R, 0, none⟩) (l + 1) cR] 108)) := ⟨(hg.block G HG2.out.lt (fun e => hvG e.symm)).trans HG2.out⟩
              have GB3 : Kp (Below A w w3 ∧ A ≤ w3.heap.size) := ⟨below_row_grown GB2.out.1 GB2.out.2 (by rw [HLv.out] at h1; exact h1) hg, Nat.le_trans GB2.out.2 hg.size⟩
              clear h1 hvG hel ho hg hv hlt GI2 HG2 GB2
              refine hK _ _ ?_
              clear hK K
              try simp only [Act.put, List.setIfInBounds_toArray, List.set_cons_zero, List.set_cons_succ]
              refine wpAny_take (i := 19) (oi := { dst := some 44, op := Go.Op.nilCheck (Go.Operand.tmp 25), type := 0, pos := "grove.go:39", after := #[{ on := 0, ground := Go.Ground.data }, { on := 0, ground := Go.Ground.phase }, { on := 1, ground := Go.Ground.phase }, { on := 2, ground := Go.Ground.phase }, { on := 3, ground := Go.Ground.phase }, { on := 4, ground := Go.Ground.phase }, { on := 5, ground := Go.Ground.phase }, { on := 6, ground := Go.Ground.phase }, { on := 7, ground := Go.Ground.phase }, { on := 8, ground := Go.Ground.phase }, { on := 9, ground := Go.Ground.phase }, { on := 10, ground := Go.Ground.phase }, { on := 11, ground := Go.Ground.phase }, { on := 12, ground := Go.Ground.phase }, { on := 13, ground := Go.Ground.phase }, { on := 14, ground := Go.Ground.phase }, { on := 15, ground := Go.Ground.phase }, { on := 16, ground := Go.Ground.phase }, { on := 17, ground := Go.Ground.phase }, { on := 18, ground := Go.Ground.phase }], guard := none }) (v := .pointer (some ⟨G, 0, none⟩)) rfl (by kernel_rfl) (by kernel_rfl) (by kernel_rfl) (fun _ _ _ h => h) (Or.inl ⟨by rfl, fun w => by first | rfl | go_simp⟩) ?_
              simp only [Act.put, List.setIfInBounds_toArray, List.set_cons_zero, List.set_cons_succ]
              refine wpAny_take (i := 20) (oi := { dst := some 45, op := Go.Op.fieldAddr 108 (Go.Operand.tmp 44) 0, type := 0, pos := "grove.go:39", after := #[{ on := 19, ground := Go.Ground.data }, { on := 0, ground := Go.Ground.phase }, { on := 1, ground := Go.Ground.phase }, { on := 2, ground := Go.Ground.phase }, { on := 3, ground := Go.Ground.phase }, { on := 4, ground := Go.Ground.phase }, { on := 5, ground := Go.Ground.phase }, { on := 6, ground := Go.Ground.phase }, { on := 7, ground := Go.Ground.phase }, { on := 8, ground := Go.Ground.phase }, { on := 9, ground := Go.Ground.phase }, { on := 10, ground := Go.Ground.phase }, { on := 11, ground := Go.Ground.phase }, { on := 12, ground := Go.Ground.phase }, { on := 13, ground := Go.Ground.phase }, { on := 14, ground := Go.Ground.phase }, { on := 15, ground := Go.Ground.phase }, { on := 16, ground := Go.Ground.phase }, { on := 17, ground := Go.Ground.phase }, { on := 18, ground := Go.Ground.phase }], guard := none }) (v := .pointer (some ⟨G, 0, none⟩)) rfl (by kernel_rfl) (by kernel_rfl) (by kernel_rfl) (fun _ _ _ h => h) (Or.inl ⟨by rfl, fun w => by first | rfl | go_simp⟩) ?_
              simp only [Act.put, List.setIfInBounds_toArray, List.set_cons_zero, List.set_cons_succ]
              refine wpAny_ready (rs := [21]) (by kernel_rfl) (by simp) ?_
              refine AllReady.cons (o := { dst := none, op := Go.Op.store 106 (Go.Operand.tmp 45) (Go.Operand.tmp 43), type := 0, pos := "grove.go:39", after := #[{ on := 20, ground := Go.Ground.data }, { on := 18, ground := Go.Ground.data }, { on := 18, ground := Go.Ground.chain }, { on := 0, ground := Go.Ground.phase }, { on := 1, ground := Go.Ground.phase }, { on := 2, ground := Go.Ground.phase }, { on := 3, ground := Go.Ground.phase }, { on := 4, ground := Go.Ground.phase }, { on := 5, ground := Go.Ground.phase }, { on := 6, ground := Go.Ground.phase }, { on := 7, ground := Go.Ground.phase }, { on := 8, ground := Go.Ground.phase }, { on := 9, ground := Go.Ground.phase }, { on := 10, ground := Go.Ground.phase }, { on := 11, ground := Go.Ground.phase }, { on := 12, ground := Go.Ground.phase }, { on := 13, ground := Go.Ground.phase }, { on := 14, ground := Go.Ground.phase }, { on := 15, ground := Go.Ground.phase }, { on := 16, ground := Go.Ground.phase }, { on := 17, ground := Go.Ground.phase }, { on := 18, ground := Go.Ground.phase }], guard := none }) rfl (fun K hK => ?_) AllReady.nil
              obtain ⟨q1, q2⟩ := HG3.out.one
              go_simp
              clear q1 q2
              refine hK _ _ ?_
              clear hK K
              try simp only [Act.put, List.setIfInBounds_toArray, List.set_cons_zero, List.set_cons_succ]
              refine wpAny_done (by kernel_rfl) ?_ _
              have GI4 := Kp.mk (GI3.out.set (.slice (some ⟨g, 0, none⟩) (l + 1 + 1) capN))
              have HG4 : Kp (Blk (w3.setCell ⟨G, 0, none⟩ (.slice (some ⟨g, 0, none⟩) (l + 1 + 1) capN)) G (.cells #[.slice (some ⟨g, 0, none⟩) (l + 1 + 1) capN] 108)) := ⟨HG3.out.set 0 _⟩
              have GB4 : Kp (Below A w (w3.setCell ⟨G, 0, none⟩ (.slice (some ⟨g, 0, none⟩) (l + 1 + 1) capN)) ∧ A ≤ (w3.setCell ⟨G, 0, none⟩ (.slice (some ⟨g, 0, none⟩) (l + 1 + 1) capN)).heap.size) := ⟨GB3.out.1.setCell (by have := HGA.out; show A ≤ G; omega) _, by simpa [World.setCell] using GB3.out.2⟩
              clear GI3 HG3 GB3
              go_wp2_with fail
              exact ⟨⟨l + 1, .slice (some ⟨g, 0, none⟩) (l + 1 + 1) capN, by omega, by go_num, HG4, GI4, GB4⟩, by simp [intOf]; omega⟩
            · go_simp
              have HG2 := Kp.mk (Blk.old HG1.out (.cells #[.slice (some ⟨C, 0, none⟩) m2 cC] 50))
              have GI2 := Kp.mk (GI1.out.below (more (Below.refl w1.heap.size w1) (.cells #[.slice (some ⟨C, 0, none⟩) m2 cC] 50)))
              have GB2 : Kp (Below A w (w1.alloc (.cells #[.slice (some ⟨C, 0, none⟩) m2 cC] 50)) ∧ A ≤ (w1.alloc (.cells #[.slice (some ⟨C, 0, none⟩) m2 cC] 50)).heap.size) := ⟨GB1.out.1.alloc GB1.out.2 _, by have := GB1.out.2; simp; omega⟩
              clear GI1 GB1 HG1
              refine hK _ _ ?_
              clear hK K
              try simp only [Act.put, List.setIfInBounds_toArray, List.set_cons_zero, List.set_cons_succ]
              refine wpAny_ready (rs := [4]) (by kernel_rfl) (by simp) ?_
              refine AllReady.cons (o := { dst := some 29, op := Go.Op.load 106 (Go.Operand.tmp 28), type := 106, pos := "grove.go:39", after := #[{ on := 3, ground := Go.Ground.data }], guard := none }) rfl (fun K hK => ?_) AllReady.nil
              have q2 : (w1.alloc (.cells #[.slice (some ⟨C, 0, none⟩) m2 cC] 50)).cell? ⟨G, 0, none⟩ = some (.slice (some ⟨R, 0, none⟩) (l + 1) cR) := HG2.out.cell 0
              go_simp
              clear q2
              refine hK _ _ ?_
              clear hK K
              try simp only [Act.put, List.setIfInBounds_toArray, List.set_cons_zero, List.set_cons_succ]
              refine wpAny_ready (rs := [18]) (by kernel_rfl) (by simp) ?_
              refine AllReady.cons (o := { dst := some 43, op := Go.Op.call { callee := Go.Callee.builtin Go.Builtin.append, args := #[Go.Operand.tmp 29, Go.Operand.tmp 42], argTypes := #[106, 106] }, type := 106, pos := "grove.go:39", after := #[{ on := 4, ground := Go.Ground.data }, { on := 17, ground := Go.Ground.data }, { on := 16, ground := Go.Ground.chain }], guard := none }) rfl (fun K hK => ?_) AllReady.nil
              obtain ⟨vs, h1, hvG, hel⟩ := GI2.out
              refine step_append_lies _ rfl (.tmp 29) (.tmp 42) 106 rfl A 50 i0 (.slice none 0 0) 1 24 Tryd.underlying106 hi hz0 hz1 hz2 rfl (by decide) (.slice (some ⟨R, 0, none⟩) (l + 1) cR) (l + 1) vs rfl (by rw [HLv.out] at h1; exact h1) ⟨w1.heap.size, 0, none⟩ 1 1 [.slice (some ⟨C, 0, none⟩) m2 cC] rfl rfl ?d0 ?d1 (by decide) ?d3 ?d4 GB2.out.2 (w1.heap.size + 1) ?d6 ?_
              case d0 => exact World.news_of_block (Blk.new w1 (.cells #[.slice (some ⟨C, 0, none⟩) m2 cC] 50))
              case d1 => intro u hu; simp only [List.mem_singleton] at hu; rw [hu]; rfl
              case d3 => unfold maxLen; omega
              case d4 => omega
              case d6 => simp
              intro g capN w3 ho hg hv hlt
              have GI3 : Kp (GrowIs w3 G A (.slice (some ⟨g, 0, none⟩) (l + 1 + 1) capN) (lvls5 d e L k (l + 1 + 1))) := ⟨by
                rw [lvls5_succ]
                exact GrowIs.more (n := l + 1) HLv.out h1 hvG hel (by rw [← HUp.out, upG_len]; omega) (by rw [← HUp.out]; exact fun j v hj => ((more (Below.refl w1.heap.size w1) _).cell (p := ⟨C, 0 + j, none⟩) HCr.out.1).trans (HCr.out.2 j v hj)) (by have := HCr.out.1; simp; omega) HCC.out.2.2 (by have := HCC.out; omega) (fun e => (by have e' : R = C := (by simpa [Value.ownBlock] using e); have := HCC.out; omega)) (by have := HG2.out.lt; simp at this ⊢; omega) ho hg (by simpa using hv)⟩
              have HG3 : Kp (Blk w3 G (.cells #[.slice (some ⟨R, 0, none⟩) (l + 1) cR] 108)) := ⟨(hg.block G HG2.out.lt (fun e => hvG e.symm)).trans HG2.out⟩
              have GB3 : Kp (Below A w w3 ∧ A ≤ w3.heap.size) := ⟨below_row_grown GB2.out.1 GB2.out.2 (by rw [HLv.out] at h1; exact h1) hg, Nat.le_trans GB2.out.2 hg.size⟩
              clear h1 hvG hel ho hg hv hlt GI2 HG2 GB2
              refine hK _ _ ?_
              clear hK K
              try simp only [Act.put, List.setIfInBounds_toArray, List.set_cons_zero, List.set_cons_succ]
              refine wpAny_take (i := 19) (oi := { dst := some 44, op := Go.Op.nilCheck (Go.Operand.tmp 25), type := 0, pos := "grove.go:39", after := #[{ on := 0, ground := Go.Ground.data }, { on := 0, ground := Go.Ground.phase }, { on := 1, ground := Go.Ground.phase }, { on := 2, ground := Go.Ground.phase }, { on := 3, ground := Go.Ground.phase }, { on := 4, ground := Go.Ground.phase }, { on := 5, ground := Go.Ground.phase }, { on := 6, ground := Go.Ground.phase }, { on := 7, ground := Go.Ground.phase }, { on := 8, ground := Go.Ground.phase }, { on := 9, ground := Go.Ground.phase }, { on := 10, ground := Go.Ground.phase }, { on := 11, ground := Go.Ground.phase }, { on := 12, ground := Go.Ground.phase }, { on := 13, ground := Go.Ground.phase }, { on := 14, ground := Go.Ground.phase }, { on := 15, ground := Go.Ground.phase }, { on := 16, ground := Go.Ground.phase }, { on := 17, ground := Go.Ground.phase }, { on := 18, ground := Go.Ground.phase }], guard := none }) (v := .pointer (some ⟨G, 0, none⟩)) rfl (by kernel_rfl) (by kernel_rfl) (by kernel_rfl) (fun _ _ _ h => h) (Or.inl ⟨by rfl, fun w => by first | rfl | go_simp⟩) ?_
              simp only [Act.put, List.setIfInBounds_toArray, List.set_cons_zero, List.set_cons_succ]
              refine wpAny_take (i := 20) (oi := { dst := some 45, op := Go.Op.fieldAddr 108 (Go.Operand.tmp 44) 0, type := 0, pos := "grove.go:39", after := #[{ on := 19, ground := Go.Ground.data }, { on := 0, ground := Go.Ground.phase }, { on := 1, ground := Go.Ground.phase }, { on := 2, ground := Go.Ground.phase }, { on := 3, ground := Go.Ground.phase }, { on := 4, ground := Go.Ground.phase }, { on := 5, ground := Go.Ground.phase }, { on := 6, ground := Go.Ground.phase }, { on := 7, ground := Go.Ground.phase }, { on := 8, ground := Go.Ground.phase }, { on := 9, ground := Go.Ground.phase }, { on := 10, ground := Go.Ground.phase }, { on := 11, ground := Go.Ground.phase }, { on := 12, ground := Go.Ground.phase }, { on := 13, ground := Go.Ground.phase }, { on := 14, ground := Go.Ground.phase }, { on := 15, ground := Go.Ground.phase }, { on := 16, ground := Go.Ground.phase }, { on := 17, ground := Go.Ground.phase }, { on := 18, ground := Go.Ground.phase }], guard := none }) (v := .pointer (some ⟨G, 0, none⟩)) rfl (by kernel_rfl) (by kernel_rfl) (by kernel_rfl) (fun _ _ _ h => h) (Or.inl ⟨by rfl, fun w => by first | rfl | go_simp⟩) ?_
              simp only [Act.put, List.setIfInBounds_toArray, List.set_cons_zero, List.set_cons_succ]
              refine wpAny_ready (rs := [21]) (by kernel_rfl) (by simp) ?_
              refine AllReady.cons (o := { dst := none, op := Go.Op.store 106 (Go.Operand.tmp 45) (Go.Operand.tmp 43), type := 0, pos := "grove.go:39", after := #[{ on := 20, ground := Go.Ground.data }, { on := 18, ground := Go.Ground.data }, { on := 18, ground := Go.Ground.chain }, { on := 0, ground := Go.Ground.phase }, { on := 1, ground := Go.Ground.phase }, { on := 2, ground := Go.Ground.phase }, { on := 3, ground := Go.Ground.phase }, { on := 4, ground := Go.Ground.phase }, { on := 5, ground := Go.Ground.phase }, { on := 6, ground := Go.Ground.phase }, { on := 7, ground := Go.Ground.phase }, { on := 8, ground := Go.Ground.phase }, { on := 9, ground := Go.Ground.phase }, { on := 10, ground := Go.Ground.phase }, { on := 11, ground := Go.Ground.phase }, { on := 12, ground := Go.Ground.phase }, { on := 13, ground := Go.Ground.phase }, { on := 14, ground := Go.Ground.phase }, { on := 15, ground := Go.Ground.phase }, { on := 16, ground := Go.Ground.phase }, { on := 17, ground := Go.Ground.phase }, { on := 18, ground := Go.Ground.phase }], guard := none }) rfl (fun K hK => ?_) AllReady.nil
              obtain ⟨q1, q2⟩ := HG3.out.one
              go_simp
              clear q1 q2
              refine hK _ _ ?_
              clear hK K
              try simp only [Act.put, List.setIfInBounds_toArray, List.set_cons_zero, List.set_cons_succ]
              refine wpAny_done (by kernel_rfl) ?_ _
              have GI4 := Kp.mk (GI3.out.set (.slice (some ⟨g, 0, none⟩) (l + 1 + 1) capN))
              have HG4 : Kp (Blk (w3.setCell ⟨G, 0, none⟩ (.slice (some ⟨g, 0, none⟩) (l + 1 + 1) capN)) G (.cells #[.slice (some ⟨g, 0, none⟩) (l + 1 + 1) capN] 108)) := ⟨HG3.out.set 0 _⟩
              have GB4 : Kp (Below A w (w3.setCell ⟨G, 0, none⟩ (.slice (some ⟨g, 0, none⟩) (l + 1 + 1) capN)) ∧ A ≤ (w3.setCell ⟨G, 0, none⟩ (.slice (some ⟨g, 0, none⟩) (l + 1 + 1) capN)).heap.size) := ⟨GB3.out.1.setCell (by have := HGA.out; show A ≤ G; omega) _, by simpa [World.setCell] using GB3.out.2⟩
              clear GI3 HG3 GB3
              go_wp2_with fail
              exact ⟨⟨l + 1, .slice (some ⟨g, 0, none⟩) (l + 1 + 1) capN, by omega, by go_num, HG4, GI4, GB4⟩, by simp [intOf]; omega⟩
    · have hl' : l = k := by omega
      subst hl'
      go_wp2_with fail
      go_ret2
      exact ⟨G, v, rfl, HG0.out, by rw [← HA.out]; exact GI0.out, by rw [← HA.out]; exact Nat.le_of_lt HGA.out, by rw [← HA.out]; exact GB0.out.1⟩
end Go.Proofs.YtibbinenhmiclaaDoor
