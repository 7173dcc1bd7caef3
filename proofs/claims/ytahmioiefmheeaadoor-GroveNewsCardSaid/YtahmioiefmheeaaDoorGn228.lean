/-
  grove: has, Root, Path of a tree.
  grove: where there is no tree, no leaf, no path; one leaf; a row that is set to zeros.
-/
import Derived.Test.YtahmioiefmheeaaDoorGn227
namespace Go.Proofs.YtahmioiefmheeaaDoor
open Go.RowKit

/-- A tree in memory. -/
def GroveAt (w : World) (G : Nat) (d e : Int) (L : List Int) (k : Nat) : Prop := ∃ v, Blk w G (.cells #[v] 141) ∧ GrowAt w v (lvls5 d e L k (k + 1))
theorem GroveAt.keep {w w' : World} {G : Nat} {d e : Int} {L : List Int} {k : Nat} (h : GroveAt w G d e L k) (hb : Below w.heap.size w w') : GroveAt w' G d e L k := by
  obtain ⟨v, h1, h2⟩ := h
  exact ⟨v, h1.keep hb, h2.keep hb⟩
theorem xor_64 : ∀ c : Nat, c < 64 → bits .xor .i64 (c : Int) 1 = ((if c % 2 = 1 then c - 1 else c + 1 : Nat) : Int) := by decide
set_option maxRecDepth 100000 in
theorem hasG_any (G R cR M B n c j : Nat) (w : World) (c1 : w.cell? ⟨G, 0, none⟩ = some (.slice (some ⟨R, 0, none⟩) (M + 1) cR)) (c2 : w.cell? ⟨R, 0, none⟩ = some (.slice (some ⟨B, 0, none⟩) n c)) (hj : j < n) :
    Calls Tryd.prog 103 #[.pointer (some ⟨G, 0, none⟩), .int .i64 j] w fun r w' => r = .returned (.bool true) ∧ w' = w := by
  have h1 : (0 : Int) < ((M : Int) + 1) := by omega
  have h2 : (0 : Int) ≤ (j : Int) := by omega
  have h3 : (j : Int) < (n : Int) := by omega
  go_enter Tryd.func103, Tryd.ntmps103
  go_wp2_with fail
  go_ret
  exact ⟨rfl, rfl⟩
set_option maxRecDepth 100000 in
set_option maxHeartbeats 4000000 in
theorem rootG_any (d e : Int) (L : List Int) (k G : Nat) (w : World) (hL : L.length = 2 ^ k * 16) (hk : k ≤ 6) (hg : GroveAt w G d e L k) :
    Calls Tryd.prog 63 #[.pointer (some ⟨G, 0, none⟩)] w fun r w' => r = .returned (dgV (nodeG d e L k 0)) ∧ Below w.heap.size w w' := by
  obtain ⟨v, hG, R, cR, rfl, hcap, hR, hel⟩ := hg
  obtain ⟨B0, c0, hc0, -, -⟩ := hel 0 (by rw [lvls5_len]; omega)
  rw [lvls5_get d e L k (k + 1) 0 (by omega), lvlG_len hL (Nat.zero_le _), Nat.sub_zero, Nat.mul_div_cancel _ (by decide)] at hc0
  obtain ⟨B, cB, hcB, hrB, hBl⟩ := hel k (by rw [lvls5_len]; omega)
  rw [lvls5_get d e L k (k + 1) k (by omega), lvlG_len hL (Nat.le_refl _), Nat.sub_self, Nat.mul_div_cancel _ (by decide)] at hcB
  rw [lvls5_get d e L k (k + 1) k (by omega)] at hrB
  have hcg : w.cell? ⟨G, 0, none⟩ = some (.slice (some ⟨R, 0, none⟩) (k + 1) cR) := by have h := hG.cell 0; rw [lvls5_len] at h; exact h
  obtain ⟨s, hs⟩ : ∃ s, s = nodeG d e L k 0 := ⟨_, rfl⟩
  have hlv : lvlG d e L k k = s := by rw [hs, lvlG, Nat.sub_self]; simp [rowsL]
  rw [hlv] at hrB
  have HSl : Kp (s.length = 16) := ⟨by rw [hs]; exact nodeG_len hL k 0 (by omega)⟩
  have HSe : Kp (s = nodeG d e L k 0) := ⟨hs⟩
  have hGl := hG.lt
  obtain ⟨A, hA⟩ : ∃ A, A = w.heap.size := ⟨_, rfl⟩
  have HA := Kp.mk hA
  have HF : Kp (w.cell? ⟨G, 0, none⟩ = some (.slice (some ⟨R, 0, none⟩) (k + 1) cR) ∧ w.cell? ⟨R, 0, none⟩ = some (.slice (some ⟨B0, 0, none⟩) (2 ^ k) c0) ∧ w.cell? ⟨R, k, none⟩ = some (.slice (some ⟨B, 0, none⟩) 1 cB) ∧ w.rangeAt B 0 (kv .u8 s) ∧ G < w.heap.size ∧ R < w.heap.size ∧ B < w.heap.size) := ⟨hcg, hc0, hcB, hrB, hGl, hR, hBl⟩
  clear hs hlv hG hcap hR hel hc0 hcB hrB hBl hcg hGl
  go_enter Tryd.func63, Tryd.ntmps63
  go_wp2_with fail
  rw [← hA]
  refine calls_world (fun W => Row W A 33 .u8 (fill 16 []) ∧ Below A w W ∧ Below w.heap.size w W) ⟨Blk.newAt _ hA, by rw [hA]; exact more (Below.refl _ _) _, more (Below.refl _ _) _⟩ ?_
  clear hA
  rintro W ⟨g1, g2, g3⟩
  have G1 := Kp.mk g1
  have G5 := Kp.mk g2
  have G2 : Kp (W.cell? ⟨G, 0, none⟩ = some (.slice (some ⟨R, 0, none⟩) (k + 1) cR) ∧ G < W.heap.size) := ⟨(g3.cell (p := ⟨G, 0, none⟩) HF.out.2.2.2.2.1).trans HF.out.1, Nat.lt_of_lt_of_le HF.out.2.2.2.2.1 g3.size⟩
  have G3 : Kp (W.cell? ⟨R, k, none⟩ = some (.slice (some ⟨B, 0, none⟩) 1 cB) ∧ R < W.heap.size) := ⟨(g3.cell (p := ⟨R, k, none⟩) HF.out.2.2.2.2.2.1).trans HF.out.2.2.1, Nat.lt_of_lt_of_le HF.out.2.2.2.2.2.1 g3.size⟩
  have G4 : Kp (W.rangeAt B 0 (kv .u8 s) ∧ B < W.heap.size) := ⟨fun j v hj => (g3.cell (p := ⟨B, 0 + j, none⟩) HF.out.2.2.2.2.2.2).trans (HF.out.2.2.2.1 j v hj), Nat.lt_of_lt_of_le HF.out.2.2.2.2.2.2 g3.size⟩
  have G0 : Kp (W.cell? ⟨R, 0, none⟩ = some (.slice (some ⟨B0, 0, none⟩) (2 ^ k) c0)) := ⟨(g3.cell (p := ⟨R, 0, none⟩) HF.out.2.2.2.2.2.1).trans HF.out.2.1⟩
  clear g1 g2 g3
  refine (hasG_any G R cR k B0 (2 ^ k) c0 0 W G2.out.1 G0.out (Nat.pow_pos (by decide))).mono ?_
  rintro r w1 ⟨rfl, e1⟩
  rw [e1]
  clear e1 w1 G0
  go_wp2_with fail
  refine wp_region_pred (fun w' => Row w' A 33 .u8 (fill 16 []) ∧ (w'.cell? ⟨G, 0, none⟩ = some (.slice (some ⟨R, 0, none⟩) (k + 1) cR) ∧ G < w'.heap.size) ∧ (w'.cell? ⟨R, k, none⟩ = some (.slice (some ⟨B, 0, none⟩) 1 cB) ∧ R < w'.heap.size) ∧ (w'.rangeAt B 0 (kv .u8 s) ∧ B < w'.heap.size) ∧ Below A w w') [0, 1, 2, 3, 4, 5, 6, 7, 8, 9, 10, 11, 12, 13] [14]
    (fun ι w' v => match ι with
      | 0 | 1 | 2 | 4 | 5 | 6 => v = .pointer (some ⟨G, 0, none⟩)
      | 3 | 7 => v = .slice (some ⟨R, 0, none⟩) (k + 1) cR
      | 8 => v = .int .i64 ((k : Int) + 1)
      | 9 => v = .int .i64 k
      | 10 => v = .pointer (some ⟨R, k, none⟩)
      | 11 => v = .slice (some ⟨B, 0, none⟩) 1 cB
      | 12 => v = .pointer (some ⟨B, 0, none⟩)
      | 13 => v = dgV s
      | _ => v = .bool true)
    [[], [(0, some 7)], [(1, some 8)], [(2, some 9)], [], [(4, some 11)], [(5, some 12)], [(6, some 13)], [(7, some 14)], [(8, some 15)], [(3, some 10), (9, some 16)], [(10, some 17)], [(11, some 18)], [(12, some 19)]]
    [(0, some 7), (1, some 8), (2, some 9), (3, some 10), (4, some 11), (5, some 12), (6, some 13), (7, some 14), (8, some 15), (9, some 16), (10, some 17), (11, some 18), (12, some 19), (13, some 20)]
    (by kernel_rfl) (by kernel_rfl) (by kernel_rfl) (by kernel_rfl) (by kernel_rfl) (by kernel_rfl) (by decide) (by decide) (fun w1 w2 h hb => ⟨h.1.keep hb, ⟨(hb.cell (p := ⟨G, 0, none⟩) h.2.1.2).trans h.2.1.1, Nat.lt_of_lt_of_le h.2.1.2 hb.size⟩, ⟨(hb.cell (p := ⟨R, k, none⟩) h.2.2.1.2).trans h.2.2.1.1, Nat.lt_of_lt_of_le h.2.2.1.2 hb.size⟩, ⟨fun j v hj => (hb.cell (p := ⟨B, 0 + j, none⟩) h.2.2.2.1.2).trans (h.2.2.2.1.1 j v hj), Nat.lt_of_lt_of_le h.2.2.2.1.2 hb.size⟩, h.2.2.2.2.trans (hb.mono (Nat.le_of_lt h.1.lt))⟩) ?_ ⟨G1.out.drew, G2.out, G3.out, G4.out, G5.out.drew⟩ ?_ ?_
  · intro ι w1 w2 v h hb
    match ι, h with
    | 0, h => exact h
    | 1, h => exact h
    | 2, h => exact h
    | 3, h => exact h
    | 4, h => exact h
    | 5, h => exact h
    | 6, h => exact h
    | 7, h => exact h
    | 8, h => exact h
    | 9, h => exact h
    | 10, h => exact h
    | 11, h => exact h
    | 12, h => exact h
    | 13, h => exact h
    | _ + 14, h => exact h
  · refine ⟨fun γ wx hS h => ?_, fun γ wx hS h => ?_, fun γ wx hS h => ?_, fun γ wx hS h => ?_, fun γ wx hS h => ?_, fun γ wx hS h => ?_, fun γ wx hS h => ?_, fun γ wx hS h => ?_, fun γ wx hS h => ?_, fun γ wx hS h => ?_, fun γ wx hS h => ?_, fun γ wx hS h => ?_, fun γ wx hS h => ?_, fun γ wx hS h => ?_, trivial⟩
    · refine ⟨_, rfl, Or.inl ⟨rfl, predRun_value (v := .pointer (some ⟨G, 0, none⟩)) (by simp only [putE]; first | rfl | (go_simp; done) | (go_simp; with_reducible rfl) | (go_simp; rfl)) rfl⟩⟩
    · have h0 := h
      have e0 : γ 0 = .pointer (some ⟨G, 0, none⟩) := h0
      refine ⟨_, rfl, Or.inl ⟨rfl, predRun_value (v := .pointer (some ⟨G, 0, none⟩)) (by simp only [putE, e0]; first | rfl | (go_simp; done) | (go_simp; with_reducible rfl) | (go_simp; rfl)) rfl⟩⟩
    · have h1 := h
      have e1 : γ 1 = .pointer (some ⟨G, 0, none⟩) := h1
      refine ⟨_, rfl, Or.inl ⟨rfl, predRun_value (v := .pointer (some ⟨G, 0, none⟩)) (by simp only [putE, e1]; first | rfl | (go_simp; done) | (go_simp; with_reducible rfl) | (go_simp; rfl)) rfl⟩⟩
    · have h2 := h
      have e2 : γ 2 = .pointer (some ⟨G, 0, none⟩) := h2
      refine ⟨_, rfl, Or.inl ⟨rfl, predRun_value (v := .slice (some ⟨R, 0, none⟩) (k + 1) cR) (by simp only [putE, e2]; have q1 := hS.2.1.1; first | rfl | (go_simp; done) | (go_simp; with_reducible rfl) | (go_simp; rfl)) rfl⟩⟩
    · refine ⟨_, rfl, Or.inl ⟨rfl, predRun_value (v := .pointer (some ⟨G, 0, none⟩)) (by simp only [putE]; first | rfl | (go_simp; done) | (go_simp; with_reducible rfl) | (go_simp; rfl)) rfl⟩⟩
    · have h4 := h
      have e4 : γ 4 = .pointer (some ⟨G, 0, none⟩) := h4
      refine ⟨_, rfl, Or.inl ⟨rfl, predRun_value (v := .pointer (some ⟨G, 0, none⟩)) (by simp only [putE, e4]; first | rfl | (go_simp; done) | (go_simp; with_reducible rfl) | (go_simp; rfl)) rfl⟩⟩
    · have h5 := h
      have e5 : γ 5 = .pointer (some ⟨G, 0, none⟩) := h5
      refine ⟨_, rfl, Or.inl ⟨rfl, predRun_value (v := .pointer (some ⟨G, 0, none⟩)) (by simp only [putE, e5]; first | rfl | (go_simp; done) | (go_simp; with_reducible rfl) | (go_simp; rfl)) rfl⟩⟩
    · have h6 := h
      have e6 : γ 6 = .pointer (some ⟨G, 0, none⟩) := h6
      refine ⟨_, rfl, Or.inl ⟨rfl, predRun_value (v := .slice (some ⟨R, 0, none⟩) (k + 1) cR) (by simp only [putE, e6]; have q1 := hS.2.1.1; first | rfl | (go_simp; done) | (go_simp; with_reducible rfl) | (go_simp; rfl)) rfl⟩⟩
    · have h7 := h
      have e7 : γ 7 = .slice (some ⟨R, 0, none⟩) (k + 1) cR := h7
      refine ⟨_, rfl, Or.inl ⟨rfl, predRun_value (v := .int .i64 ((k : Int) + 1)) (by simp only [putE, e7]; first | rfl | (go_simp; done) | (go_simp; with_reducible rfl) | (go_simp; rfl)) rfl⟩⟩
    · have h8 := h
      have e8 : γ 8 = .int .i64 ((k : Int) + 1) := h8
      refine ⟨_, rfl, Or.inl ⟨rfl, predRun_value (v := .int .i64 k) (by simp only [putE, e8]; have e1 : IntKind.i64.wrap (k : Int) = (k : Int) := (IntWalk.i64_in _ (by omega)); first | rfl | (go_simp; done) | (go_simp; with_reducible rfl) | (go_simp; rfl)) rfl⟩⟩
    · obtain ⟨h3, h9⟩ := h
      have e3 : γ 3 = .slice (some ⟨R, 0, none⟩) (k + 1) cR := h3
      have e9 : γ 9 = .int .i64 k := h9
      refine ⟨_, rfl, Or.inl ⟨rfl, predRun_value (exec_idx137 (x := .tmp 10) (y := .tmp 16) (R := R) (n := k + 1) (cap := cR) (j := k) rfl (by simp only [putE, e3, e9, Act.put, List.setIfInBounds_toArray, List.set_cons_zero, List.set_cons_succ]; rfl) (by simp only [putE, e3, e9, Act.put, List.setIfInBounds_toArray, List.set_cons_zero, List.set_cons_succ]; rfl) rfl (by omega)) rfl⟩⟩
    · have h10 := h
      have e10 : γ 10 = .pointer (some ⟨R, k, none⟩) := h10
      refine ⟨_, rfl, Or.inl ⟨rfl, predRun_value (v := .slice (some ⟨B, 0, none⟩) 1 cB) (by simp only [putE, e10]; have q1 := hS.2.2.1.1; first | rfl | (go_simp; done) | (go_simp; with_reducible rfl) | (go_simp; rfl)) rfl⟩⟩
    · have h11 := h
      have e11 : γ 11 = .slice (some ⟨B, 0, none⟩) 1 cB := h11
      refine ⟨_, rfl, Or.inl ⟨rfl, predRun_value (v := .pointer (some ⟨B, 0, none⟩)) (by simp only [putE, e11]; first | rfl | (go_simp; done) | (go_simp; with_reducible rfl) | (go_simp; rfl)) rfl⟩⟩
    · have h12 := h
      have e12 : γ 12 = .pointer (some ⟨B, 0, none⟩) := h12
      refine ⟨_, rfl, Or.inl ⟨rfl, predRun_value (exec_load_at33 (x := .tmp 19) (b := B) (c := 0) rfl (by simp only [putE, e12, Act.put, List.setIfInBounds_toArray, List.set_cons_zero, List.set_cons_succ]; rfl) hS.2.2.2.1.1 HSl.out) rfl⟩⟩
  · intro γ w9 hS h
    have ez : γ 13 = dgV s := h.2.2.2.2.2.2.2.2.2.2.2.2.2
    have HF := Kp.mk (hS.1.setRow s)
    have HBf := Kp.mk (Below.row hS.2.2.2.2 (g := A) (Nat.le_refl _) (kv .u8 s).toArray)
    have HGr := Kp.mk hS.1
    simp only [putE, Act.put, List.setIfInBounds_toArray, List.set_cons_zero, List.set_cons_succ]
    rw [ez]
    clear h hS ez
    refine wpOps_step rfl rfl ?_
    refine wp_store_row 33 (.tmp 2) (.tmp 20) rfl A (kv .u8 s).toArray rfl rfl 33 _ HGr.out (cells50 HSl.out) (size50 HSl.out) (kv_all _ _) ?_
    refine wpOps_done ?_
    go_wp2_with fail
    refine bodyPost_ret (v := dgV s) ?_ rfl ⟨by rw [HSe.out], by rw [← HA.out]; exact HBf.out⟩
    exact results_cell_row rfl _ _ A 33 _ (0, 0) _ rfl HF.out Tryd.underlying33 rfl (cells50 HSl.out)
set_option maxRecDepth 100000 in
set_option maxHeartbeats 4000000 in
theorem pathO_any (d e : Int) (L : List Int) (k G j : Nat) (w : World) (hL : L.length = 2 ^ k * 16) (hLb : Bytes L) (hk : k ≤ 6) (hj : j < 2 ^ k) (hg : GroveAt w G d e L k) :
    Calls Tryd.prog 66 #[.pointer (some ⟨G, 0, none⟩), .int .i64 j] w fun r w' => ∃ v', r = .returned (.tuple #[v', .int .i64 0]) ∧ HoldsS w' v' k (pathG d e L k j) ∧ Below w.heap.size w w' := by
  obtain ⟨i0, hi, hz0, hz1, hz2⟩ := info_parts info33'
  obtain ⟨v, hG, hgr⟩ := hg
  obtain ⟨R, cR, rfl, hcap, hR, hel⟩ := id hgr
  obtain ⟨B0, c0, hc0, -, -⟩ := hel 0 (by rw [lvls5_len]; omega)
  rw [lvls5_get d e L k (k + 1) 0 (by omega), lvlG_len hL (Nat.zero_le _), Nat.sub_zero, Nat.mul_div_cancel _ (by decide)] at hc0
  have hcg : w.cell? ⟨G, 0, none⟩ = some (.slice (some ⟨R, 0, none⟩) (k + 1) cR) := by have h := hG.cell 0; rw [lvls5_len] at h; exact h
  rw [lvls5_len] at hcap hgr
  have hj64 : j < 64 := by
    have : 2 ^ k ≤ 2 ^ 6 := Nat.pow_le_pow_right (by decide) hk
    omega
  have HL2 := Kp.mk hL
  have HJ := Kp.mk hj
  have HCap : Kp (k + 1 ≤ cR ∧ cR ≤ 9223372036854775807) := ⟨hcap.1, by have := hcap.2; unfold maxLen at this; exact this⟩
  have hcR := HCap.out.2
  have HPl := Kp.mk (pathG_len (d := d) (e := e) hL hj)
  have HPb := Kp.mk (pathG_bytes (d := d) (e := e) hLb k j)
  obtain ⟨A, hA⟩ : ∃ A, A = w.heap.size := ⟨_, rfl⟩
  have HA := Kp.mk hA
  have G2 : Kp (w.cell? ⟨G, 0, none⟩ = some (.slice (some ⟨R, 0, none⟩) (k + 1) cR) ∧ G < w.heap.size) := ⟨hcg, hG.lt⟩
  have GA0 : Kp (GrowAt w (.slice (some ⟨R, 0, none⟩) (k + 1) cR) (lvls5 d e L k (k + 1))) := ⟨hgr⟩
  have GA := GA0
  have GB : Kp (Below A w w ∧ A ≤ w.heap.size) := ⟨Below.refl _ _, by rw [hA]; exact Nat.le_refl _⟩
  have HC0 := Kp.mk hc0
  have hqp : ∀ w, (binOp .eql 85 (.pointer (some ⟨G, 0, none⟩)) (.pointer none)).run Tryd.prog w = .ok (.bool false) w := fun w => rfl
  clear hL hLb hj hG hcap hR hel hc0 hcg hgr hA
  go_enter Tryd.func66, Tryd.ntmps66
  go_wp2_with fail
  clear hqp
  refine (hasG_any G R cR k B0 (2 ^ k) c0 j w G2.out.1 HC0.out HJ.out).mono ?_
  rintro r w1 ⟨rfl, e1⟩
  rw [e1]
  clear e1 w1 HC0
  go_wp2_with fail
  refine wp_region_pred (fun w' => (w'.cell? ⟨G, 0, none⟩ = some (.slice (some ⟨R, 0, none⟩) (k + 1) cR) ∧ G < w'.heap.size) ∧ GrowAt w' (.slice (some ⟨R, 0, none⟩) (k + 1) cR) (lvls5 d e L k (k + 1)) ∧ (Below A w w' ∧ A ≤ w'.heap.size)) [0, 1, 2, 3, 4, 5, 6, 7, 8, 9, 10, 11, 12] []
    (fun ι w' v => match ι with
      | 0 | 1 | 2 | 4 | 5 | 6 => v = .pointer (some ⟨G, 0, none⟩)
      | 3 | 7 => v = .slice (some ⟨R, 0, none⟩) (k + 1) cR
      | 8 => v = .int .i64 ((k : Int) + 1)
      | 9 | 11 => v = .int .i64 k
      | 10 => v = .slice (some ⟨R, 0, none⟩) k cR
      | 12 => v = .int .i64 0
      | _ => v = .bool true)
    [[], [(0, some 15)], [(1, some 16)], [(2, some 17)], [], [(4, some 19)], [(5, some 20)], [(6, some 21)], [(7, some 22)], [(8, some 23)], [(3, some 18), (9, some 24)], [(10, some 25)], []]
    [(0, some 15), (1, some 16), (2, some 17), (3, some 18), (4, some 19), (5, some 20), (6, some 21), (7, some 22), (8, some 23), (9, some 24), (10, some 25), (11, some 26), (12, some 27)]
    (by kernel_rfl) (by kernel_rfl) (by kernel_rfl) (by kernel_rfl) (by kernel_rfl) (by kernel_rfl) (by decide) (by decide) (fun w1 w2 h hb => ⟨⟨(hb.cell (p := ⟨G, 0, none⟩) h.1.2).trans h.1.1, Nat.lt_of_lt_of_le h.1.2 hb.size⟩, h.2.1.keep hb, ⟨h.2.2.1.trans (hb.mono h.2.2.2), Nat.le_trans h.2.2.2 hb.size⟩⟩) ?_ ⟨G2.out, GA.out, ⟨GB.out.1.drew, GB.out.2⟩⟩ ?_ ?_
  · intro ι w1 w2 v h hb
    match ι, h with
    | 0, h => exact h
    | 1, h => exact h
    | 2, h => exact h
    | 3, h => exact h
    | 4, h => exact h
    | 5, h => exact h
    | 6, h => exact h
    | 7, h => exact h
    | 8, h => exact h
    | 9, h => exact h
    | 10, h => exact h
    | 11, h => exact h
    | 12, h => exact h
    | _ + 13, h => exact h
  · refine ⟨fun γ wx hS h => ?_, fun γ wx hS h => ?_, fun γ wx hS h => ?_, fun γ wx hS h => ?_, fun γ wx hS h => ?_, fun γ wx hS h => ?_, fun γ wx hS h => ?_, fun γ wx hS h => ?_, fun γ wx hS h => ?_, fun γ wx hS h => ?_, fun γ wx hS h => ?_, fun γ wx hS h => ?_, fun γ wx hS h => ?_, trivial⟩
    · refine ⟨_, rfl, Or.inl ⟨rfl, predRun_value (v := .pointer (some ⟨G, 0, none⟩)) (by simp only [putE]; first | rfl | (go_simp; done) | (go_simp; with_reducible rfl) | (go_simp; rfl)) rfl⟩⟩
    · have h0 := h
      have e0 : γ 0 = .pointer (some ⟨G, 0, none⟩) := h0
      refine ⟨_, rfl, Or.inl ⟨rfl, predRun_value (v := .pointer (some ⟨G, 0, none⟩)) (by simp only [putE, e0]; first | rfl | (go_simp; done) | (go_simp; with_reducible rfl) | (go_simp; rfl)) rfl⟩⟩
    · have h1 := h
      have e1 : γ 1 = .pointer (some ⟨G, 0, none⟩) := h1
      refine ⟨_, rfl, Or.inl ⟨rfl, predRun_value (v := .pointer (some ⟨G, 0, none⟩)) (by simp only [putE, e1]; first | rfl | (go_simp; done) | (go_simp; with_reducible rfl) | (go_simp; rfl)) rfl⟩⟩
    · have h2 := h
      have e2 : γ 2 = .pointer (some ⟨G, 0, none⟩) := h2
      refine ⟨_, rfl, Or.inl ⟨rfl, predRun_value (v := .slice (some ⟨R, 0, none⟩) (k + 1) cR) (by simp only [putE, e2]; have q1 := hS.1.1; first | rfl | (go_simp; done) | (go_simp; with_reducible rfl) | (go_simp; rfl)) rfl⟩⟩
    · refine ⟨_, rfl, Or.inl ⟨rfl, predRun_value (v := .pointer (some ⟨G, 0, none⟩)) (by simp only [putE]; first | rfl | (go_simp; done) | (go_simp; with_reducible rfl) | (go_simp; rfl)) rfl⟩⟩
    · have h4 := h
      have e4 : γ 4 = .pointer (some ⟨G, 0, none⟩) := h4
      refine ⟨_, rfl, Or.inl ⟨rfl, predRun_value (v := .pointer (some ⟨G, 0, none⟩)) (by simp only [putE, e4]; first | rfl | (go_simp; done) | (go_simp; with_reducible rfl) | (go_simp; rfl)) rfl⟩⟩
    · have h5 := h
      have e5 : γ 5 = .pointer (some ⟨G, 0, none⟩) := h5
      refine ⟨_, rfl, Or.inl ⟨rfl, predRun_value (v := .pointer (some ⟨G, 0, none⟩)) (by simp only [putE, e5]; first | rfl | (go_simp; done) | (go_simp; with_reducible rfl) | (go_simp; rfl)) rfl⟩⟩
    · have h6 := h
      have e6 : γ 6 = .pointer (some ⟨G, 0, none⟩) := h6
      refine ⟨_, rfl, Or.inl ⟨rfl, predRun_value (v := .slice (some ⟨R, 0, none⟩) (k + 1) cR) (by simp only [putE, e6]; have q1 := hS.1.1; first | rfl | (go_simp; done) | (go_simp; with_reducible rfl) | (go_simp; rfl)) rfl⟩⟩
    · have h7 := h
      have e7 : γ 7 = .slice (some ⟨R, 0, none⟩) (k + 1) cR := h7
      refine ⟨_, rfl, Or.inl ⟨rfl, predRun_value (v := .int .i64 ((k : Int) + 1)) (by simp only [putE, e7]; first | rfl | (go_simp; done) | (go_simp; with_reducible rfl) | (go_simp; rfl)) rfl⟩⟩
    · have h8 := h
      have e8 : γ 8 = .int .i64 ((k : Int) + 1) := h8
      refine ⟨_, rfl, Or.inl ⟨rfl, predRun_value (v := .int .i64 k) (by simp only [putE, e8]; have e1 : IntKind.i64.wrap (k : Int) = (k : Int) := (IntWalk.i64_in _ (by omega)); first | rfl | (go_simp; done) | (go_simp; with_reducible rfl) | (go_simp; rfl)) rfl⟩⟩
    · obtain ⟨h3, h9⟩ := h
      have e3 : γ 3 = .slice (some ⟨R, 0, none⟩) (k + 1) cR := h3
      have e9 : γ 9 = .int .i64 k := h9
      refine ⟨_, rfl, Or.inl ⟨rfl, predRun_value (v := .slice (some ⟨R, 0, none⟩) k cR) (by simp only [putE, e3, e9]; have q2 : (k : Int) ≤ (cR : Int) := (by have := HCap.out; omega); have q3 : (0 : Int) ≤ (k : Int) := (by omega); first | rfl | (go_simp; done) | (go_simp; with_reducible rfl) | (go_simp; rfl)) rfl⟩⟩
    · have h10 := h
      have e10 : γ 10 = .slice (some ⟨R, 0, none⟩) k cR := h10
      refine ⟨_, rfl, Or.inl ⟨rfl, predRun_value (v := .int .i64 k) (by simp only [putE, e10]; first | rfl | (go_simp; done) | (go_simp; with_reducible rfl) | (go_simp; rfl)) rfl⟩⟩
    · refine ⟨_, rfl, Or.inl ⟨rfl, predRun_value (v := .int .i64 0) (by simp only [putE]; first | rfl | (go_simp; done) | (go_simp; with_reducible rfl) | (go_simp; rfl)) rfl⟩⟩
  · intro γ w9 hS h
    have e10 : γ 10 = .slice (some ⟨R, 0, none⟩) k cR := h.2.2.2.2.2.2.2.2.2.2.1
    have e11 : γ 11 = .int .i64 k := h.2.2.2.2.2.2.2.2.2.2.2.1
    have e12 : γ 12 = .int .i64 0 := h.2.2.2.2.2.2.2.2.2.2.2.2
    have GA9 := Kp.mk hS.2.1
    have GB9 := Kp.mk hS.2.2
    simp only [putE, Act.put, List.setIfInBounds_toArray, List.set_cons_zero, List.set_cons_succ]
    rw [e10, e11, e12]
    clear h hS e10 e11 e12 G2 GA GB
    refine wpOps_done ?_
    go_wp2_with fail
    go_loopw [1, 6, 27] (fun s1 v c9 wr => ∃ l c : Nat, l ≤ k ∧ c9 = .int .i64 l ∧ s1 = .int .i64 c ∧ Kp (c = j / 2 ^ l) ∧ Kp (wr.ownsRow A 33 16 v l (bv ((pathG d e L k j).take (l * 16)))) ∧ Kp (GrowAt wr (.slice (some ⟨R, 0, none⟩) (k + 1) cR) (lvls5 d e L k (k + 1))) ∧ Kp (Below A w wr ∧ A ≤ wr.heap.size)) (fun _ _ c _ => k - (intOf c).toNat)
    case atStart => exact ⟨0, j, by omega, rfl, rfl, ⟨by simp⟩, ⟨World.ownsRow_nil _ _ _ _⟩, GA9, GB9⟩
    case round =>
      obtain ⟨l, c, hl, rfl, rfl, HC, G1, G4, G3⟩ := hrel
      clear GA9 GB9
      have hc64 : c < 64 := by rw [HC.out]; exact Nat.lt_of_le_of_lt (Nat.div_le_self _ _) hj64
      have HCn : Kp (c / 2 = j / 2 ^ (l + 1)) := ⟨by rw [HC.out, Nat.pow_succ, Nat.div_div_eq_div_mul]⟩
      by_cases hlt : l < k
      · obtain ⟨R', cR', eR, -, hR, hel⟩ := G4.out
        simp only [Value.slice.injEq, Option.some.injEq, Addr.mk.injEq, and_true] at eR
        obtain ⟨rfl, -, rfl⟩ := eR
        obtain ⟨B, cB, hcell, hrg, hBl⟩ := hel l (by rw [lvls5_len]; omega)
        rw [lvls5_get d e L k (k + 1) l (by omega), lvlG_len HL2.out hl, Nat.mul_div_cancel _ (by decide)] at hcell
        rw [lvls5_get d e L k (k + 1) l (by omega)] at hrg
        have hbe := besI_lt HJ.out hlt
        obtain ⟨b2, hb2⟩ : ∃ b, b = besI j l := ⟨_, rfl⟩
        obtain ⟨s, hs⟩ : ∃ s, s = nodeG d e L l b2 := ⟨_, rfl⟩
        rw [← hb2] at hbe
        have HSr : Kp (wr.rangeAt B (b2 * 16) (kv .u8 s)) := ⟨by
          have h9 := range_seg (i := b2) hrg (by rw [lvlG_len HL2.out hl]; omega)
          rw [lvlG_seg HL2.out hl hbe, ← hs] at h9
          exact h9⟩
        have HSl : Kp (s.length = 16) := ⟨by rw [hs]; exact nodeG_len HL2.out l _ (lvl_le hl hbe)⟩
        have HX : Kp (bv ((pathG d e L k j).take (l * 16)) ++ bv s = bv ((pathG d e L k j).take ((l + 1) * 16))) := ⟨by rw [hs, hb2, ← pathG_seg HL2.out HJ.out hlt]; exact take16 _ _⟩
        have hxor : bits .xor .i64 (c : Int) 1 = (b2 : Int) := by rw [hb2, xor_64 c hc64]; unfold besI; rw [← HC.out]
        obtain ⟨n2, hn2⟩ : ∃ n, n = 2 ^ (k - l) := ⟨_, rfl⟩
        rw [← hn2] at hbe hcell
        have hb2l : (b2 : Int) < (n2 : Int) := by omega
        have hq2 : (c : Int).tdiv 2 = ((c / 2 : Nat) : Int) := by rw [Int.tdiv_eq_ediv_of_nonneg (by omega)]; omega
        have hcl : wr.cell? ⟨R, l, none⟩ = some (.slice (some ⟨B, 0, none⟩) n2 cB) := hcell
        have hbs := build66 HSl.out
        generalize bv ((pathG d e L k j).take (l * 16)) = xs at G1 HX
        clear hb2 hs hn2 hcell hrg hel hR hBl hbe
        go_wp2_with (first
          | (refine wpList_load_mid rfl 33 (.tmp 35) rfl B (b2 * 16) rfl (kv .u8 s) _ HSr.out Tryd.underlying33 rfl (by rw [info33L, List.length_map, HSl.out]) ?_)
          | (refine wpList_buildSlice_one rfl 66 1 (.tmp 36) rfl (dgV s) rfl _ _ (hbs _) ?_)
          | (at_builtin; refine wpList_append_own _ rfl _ _ 66 rfl A 33 i0 _ 16 16 Tryd.underlying66 hi hz0 hz1 hz2 rfl (by decide) _ _ _ rfl (G1.out.alloc _) ⟨wr.heap.size, 0, none⟩ 1 1 (bv s) rfl ?c0 (row_new _ _ _) ?c2 ?c3 ?c4 ?c5 ?_))
        case c0 => rw [bv_len, HSl.out]
        case c2 => exact bv_one _
        case c3 => unfold maxLen; omega
        case c4 => omega
        case c5 => have := G3.out.2; simp; omega
        · intro v' w4 hown' hgrow _
          have HB4 : Kp (Below A w w4) := ⟨below_row_grown (G3.out.1.alloc G3.out.2 _) (by have := G3.out.2; simp; omega) (G1.out.alloc _) hgrow⟩
          have HB5 : Kp (A ≤ w4.heap.size) := ⟨Nat.le_trans G3.out.2 (Nat.le_trans (by simp) hgrow.size)⟩
          have HO4 := Kp.mk hown'
          have HY4 : Kp (GrowAt w4 (.slice (some ⟨R, 0, none⟩) (k + 1) cR) (lvls5 d e L k (k + 1))) := ⟨GA0.out.keep (by have := HB4.out; rwa [HA.out] at this)⟩
          clear hown' hgrow hbs hcl hxor
          go_wp2_with fail
          exact ⟨⟨l + 1, c / 2, by omega, by go_num, by first | rfl | (congr 1; omega), HCn, ⟨by have := HO4.out; rw [HX.out] at this; exact this⟩, HY4, ⟨HB4.out, HB5.out⟩⟩, by simp [intOf]; omega⟩
      · have hl' : l = k := by omega
        subst hl'
        have G1' := Kp.mk G1.out
        rw [List.take_of_length_le (by rw [HPl.out]; exact Nat.le_refl _)] at G1'
        go_wp2_with fail
        go_ret2
        exact ⟨_, rfl, HoldsS.ofRow HPb.out (by unfold maxLen; omega) HPl.out G1'.out, by rw [← HA.out]; exact G3.out.1⟩
end Go.Proofs.YtahmioiefmheeaaDoor

namespace Go.Proofs.YtahmioiefmheeaaDoor
open Go.RowKit

theorem height_no (n : Nat) (w : World) (h : ∀ i : Nat, i < 7 → (n : Int) ≠ 2 ^ i) : Calls Tryd.prog 60 #[.int .i64 n] w fun r w' => r = .returned (.int .i64 (-1)) ∧ w' = w := by
  refine (height_any n w).mono ?_
  rintro r w' ⟨q, rfl, rfl, h2⟩
  rcases h2 with ⟨i, hi, e1, _⟩ | ⟨_, e⟩
  · exact absurd e1 (h i hi)
  · exact ⟨by rw [e], rfl⟩
theorem rheight_no (n : Nat) (w : World) (h : ∀ i : Nat, i < 7 → (n : Int) ≠ 2 ^ i) : Calls Tryd.prog 61 #[.int .i64 n] w fun r w' => r = .returned (.int .i64 (-1)) ∧ w' = w := by
  refine (rheight_any n w).mono ?_
  rintro r w' ⟨q, rfl, rfl, h2⟩
  rcases h2 with ⟨i, hi, e1, _⟩ | ⟨_, e⟩
  · exact absurd e1 (h i hi)
  · exact ⟨by rw [e], rfl⟩
set_option maxRecDepth 100000 in
theorem newG_no (d e : Int) (a : Option Addr) (n cap : Nat) (w : World) (h : ∀ i : Nat, i < 7 → (n : Int) ≠ 2 ^ i) :
    Calls Tryd.prog 59 #[.int .i64 d, .int .u32 e, .slice a n cap] w fun r w' => r = .returned (.tuple #[.pointer none, .int .i64 1]) ∧ w' = w := by
  have HH := Kp.mk h
  clear h
  go_enter Tryd.func59, Tryd.ntmps59
  go_wp2_with fail
  refine (height_no n w HH.out).mono ?_
  rintro r w1 ⟨rfl, e1⟩
  rw [e1]
  clear e1 w1
  go_wp2_with fail
  go_ret2
  exact ⟨rfl, rfl⟩
set_option maxRecDepth 100000 in
theorem hasG_no (G R cR M B n c : Nat) (i : Int) (w : World) (c1 : w.cell? ⟨G, 0, none⟩ = some (.slice (some ⟨R, 0, none⟩) (M + 1) cR)) (c2 : w.cell? ⟨R, 0, none⟩ = some (.slice (some ⟨B, 0, none⟩) n c)) (hi : ¬ (0 ≤ i ∧ i < n)) :
    Calls Tryd.prog 103 #[.pointer (some ⟨G, 0, none⟩), .int .i64 i] w fun r w' => r = .returned (.bool false) ∧ w' = w := by
  have h1 : (0 : Int) < ((M : Int) + 1) := by omega
  by_cases h2 : 0 ≤ i
  · have h3 : ¬ i < (n : Int) := fun h => hi ⟨h2, h⟩
    clear hi
    go_enter Tryd.func103, Tryd.ntmps103
    go_wp2_with fail
    go_ret
    exact ⟨rfl, rfl⟩
  · clear hi
    go_enter Tryd.func103, Tryd.ntmps103
    go_wp2_with fail
    go_ret
    exact ⟨rfl, rfl⟩
set_option maxRecDepth 100000 in
theorem pathO_no (d e : Int) (L : List Int) (k G : Nat) (i : Int) (w : World) (hL : L.length = 2 ^ k * 16) (hi : ¬ (0 ≤ i ∧ i < ((2 ^ k : Nat) : Int))) (hg : GroveAt w G d e L k) :
    Calls Tryd.prog 66 #[.pointer (some ⟨G, 0, none⟩), .int .i64 i] w fun r w' => r = .returned (.tuple #[.slice none 0 0, .int .i64 1]) ∧ w' = w := by
  obtain ⟨v, hG, hgr⟩ := hg
  obtain ⟨R, cR, rfl, hcap, hR, hel⟩ := id hgr
  obtain ⟨B0, c0, hc0, -, -⟩ := hel 0 (by rw [lvls5_len]; omega)
  rw [lvls5_get d e L k (k + 1) 0 (by omega), lvlG_len hL (Nat.zero_le _), Nat.sub_zero, Nat.mul_div_cancel _ (by decide)] at hc0
  have hcg : w.cell? ⟨G, 0, none⟩ = some (.slice (some ⟨R, 0, none⟩) (k + 1) cR) := by have h := hG.cell 0; rw [lvls5_len] at h; exact h
  have HC := Kp.mk (And.intro hcg hc0)
  have HI := Kp.mk hi
  have hqp : ∀ w, (binOp .eql 85 (.pointer (some ⟨G, 0, none⟩)) (.pointer none)).run Tryd.prog w = .ok (.bool false) w := fun w => rfl
  clear hL hi hG hgr hcap hR hel hc0 hcg
  go_enter Tryd.func66, Tryd.ntmps66
  go_wp2_with fail
  clear hqp
  refine (hasG_no G R cR k B0 (2 ^ k) c0 i w HC.out.1 HC.out.2 HI.out).mono ?_
  rintro r w1 ⟨rfl, e1⟩
  rw [e1]
  clear e1 w1
  go_wp2_with fail
  go_ret2
  exact ⟨rfl, rfl⟩
set_option maxRecDepth 100000 in
set_option maxHeartbeats 1000000 in
theorem leafG_no (d e : Int) (L : List Int) (k G : Nat) (i : Int) (w : World) (hL : L.length = 2 ^ k * 16) (hi : ¬ (0 ≤ i ∧ i < ((2 ^ k : Nat) : Int))) (hg : GroveAt w G d e L k) :
    Calls Tryd.prog 65 #[.pointer (some ⟨G, 0, none⟩), .int .i64 i] w fun r w' => r = .returned (.tuple #[dgV zeroS, .int .i64 1]) ∧ Below w.heap.size w w' := by
  obtain ⟨v, hG, hgr⟩ := hg
  obtain ⟨R, cR, rfl, hcap, hR, hel⟩ := id hgr
  obtain ⟨B0, c0, hc0, -, -⟩ := hel 0 (by rw [lvls5_len]; omega)
  rw [lvls5_get d e L k (k + 1) 0 (by omega), lvlG_len hL (Nat.zero_le _), Nat.sub_zero, Nat.mul_div_cancel _ (by decide)] at hc0
  have hcg : w.cell? ⟨G, 0, none⟩ = some (.slice (some ⟨R, 0, none⟩) (k + 1) cR) := by have h := hG.cell 0; rw [lvls5_len] at h; exact h
  have hb0 : Below w.heap.size w (w.alloc z50) := more (Below.refl _ _) z50
  have HC : Kp ((w.alloc z50).cell? ⟨G, 0, none⟩ = some (.slice (some ⟨R, 0, none⟩) (k + 1) cR) ∧ (w.alloc z50).cell? ⟨R, 0, none⟩ = some (.slice (some ⟨B0, 0, none⟩) (2 ^ k) c0)) := ⟨(hb0.cell (p := ⟨G, 0, none⟩) hG.lt).trans hcg, (hb0.cell (p := ⟨R, 0, none⟩) hR).trans hc0⟩
  have HI := Kp.mk hi
  have HR : Kp (Row (w.alloc z50) w.heap.size 33 .u8 zeroS) := ⟨Blk.newAt (w := w) z50 rfl⟩
  have HF := Kp.mk (HR.out.setRow zeroS)
  have HBf := Kp.mk (Below.row hb0 (g := w.heap.size) (Nat.le_refl _) (kv .u8 zeroS).toArray)
  have hqp : ∀ w, (binOp .eql 85 (.pointer (some ⟨G, 0, none⟩)) (.pointer none)).run Tryd.prog w = .ok (.bool false) w := fun w => rfl
  clear hL hi hG hgr hcap hR hel hc0 hcg hb0
  go_enter Tryd.func65, Tryd.ntmps65
  go_wp2_with fail
  clear hqp
  obtain ⟨W, hW⟩ : ∃ W, W = w.alloc z50 := ⟨_, rfl⟩
  refine calls_world (· = W) hW.symm ?_
  rw [← hW] at HC HR HF HBf
  clear hW
  intro W0 e0
  rw [e0]
  clear e0
  refine (hasG_no G R cR k B0 (2 ^ k) c0 i W HC.out.1 HC.out.2 HI.out).mono ?_
  rintro r w1 ⟨rfl, e1⟩
  rw [e1]
  clear e1 w1
  go_wp2_with (refine wpList_store_row rfl 33 (.tmp 4) (.tmp 13) rfl w.heap.size (kv .u8 zeroS).toArray rfl rfl 33 _ HR.out (cells50 (l := zeroS) rfl) rfl (kv_all _ _) ?_)
  refine bodyPost_ret (v := .tuple #[dgV zeroS, .int .i64 1]) ?_ rfl ⟨rfl, HBf.out⟩
  exact results_row_slot rfl _ _ w.heap.size 33 _ (0, 0) _ _ rfl rfl HF.out Tryd.underlying33 rfl (cells50 (l := zeroS) rfl)
set_option maxRecDepth 100000 in
set_option maxHeartbeats 1000000 in
theorem leafG_any (d e : Int) (L : List Int) (k G j : Nat) (w : World) (hL : L.length = 2 ^ k * 16) (hj : j < 2 ^ k) (hg : GroveAt w G d e L k) :
    Calls Tryd.prog 65 #[.pointer (some ⟨G, 0, none⟩), .int .i64 j] w fun r w' => r = .returned (.tuple #[dgV (segL L j), .int .i64 0]) ∧ Below w.heap.size w w' := by
  obtain ⟨v, hG, hgr⟩ := hg
  obtain ⟨R, cR, rfl, hcap, hR, hel⟩ := id hgr
  obtain ⟨B0, c0, hc0, hr0, hB0⟩ := hel 0 (by rw [lvls5_len]; omega)
  rw [lvls5_get d e L k (k + 1) 0 (by omega), lvlG_len hL (Nat.zero_le _), Nat.sub_zero, Nat.mul_div_cancel _ (by decide)] at hc0
  rw [lvls5_get d e L k (k + 1) 0 (by omega), lvlG_zero hL] at hr0
  have hcg : w.cell? ⟨G, 0, none⟩ = some (.slice (some ⟨R, 0, none⟩) (k + 1) cR) := by have h := hG.cell 0; rw [lvls5_len] at h; exact h
  obtain ⟨n, hn⟩ : ∃ n, n = 2 ^ k := ⟨_, rfl⟩
  rw [← hn] at hc0 hj
  obtain ⟨s, hs⟩ : ∃ s, s = segL L j := ⟨_, rfl⟩
  have HSl : Kp (s.length = 16) := ⟨by rw [hs]; exact segL_len hL (by omega)⟩
  have hb0 : Below w.heap.size w (w.alloc z50) := more (Below.refl _ _) z50
  have hrs : w.rangeAt B0 (j * 16) (kv .u8 s) := by rw [hs]; exact range_seg hr0 (by rw [hL]; have : (j + 1) * 16 ≤ 2 ^ k * 16 := Nat.mul_le_mul_right _ (by omega); exact this)
  have HC : Kp ((w.alloc z50).cell? ⟨G, 0, none⟩ = some (.slice (some ⟨R, 0, none⟩) (k + 1) cR) ∧ (w.alloc z50).cell? ⟨R, 0, none⟩ = some (.slice (some ⟨B0, 0, none⟩) n c0)) := ⟨(hb0.cell (p := ⟨G, 0, none⟩) hG.lt).trans hcg, (hb0.cell (p := ⟨R, 0, none⟩) hR).trans hc0⟩
  have HRs : Kp ((w.alloc z50).rangeAt B0 (j * 16) (kv .u8 s)) := ⟨fun i v hi => (hb0.cell (p := ⟨B0, j * 16 + i, none⟩) hB0).trans (hrs i v hi)⟩
  have HSe := Kp.mk hs
  have HR : Kp (Row (w.alloc z50) w.heap.size 33 .u8 zeroS) := ⟨Blk.newAt (w := w) z50 rfl⟩
  have HF := Kp.mk (HR.out.setRow s)
  have HBf := Kp.mk (Below.row hb0 (g := w.heap.size) (Nat.le_refl _) (kv .u8 s).toArray)
  have hqp : ∀ w, (binOp .eql 85 (.pointer (some ⟨G, 0, none⟩)) (.pointer none)).run Tryd.prog w = .ok (.bool false) w := fun w => rfl
  have HJ := Kp.mk hj
  rw [← hs]
  clear hL hG hgr hcap hR hel hc0 hcg hb0 hn hs hrs hr0 hB0
  go_enter Tryd.func65, Tryd.ntmps65
  go_wp2_with fail
  clear hqp
  obtain ⟨W, hW⟩ : ∃ W, W = w.alloc z50 := ⟨_, rfl⟩
  refine calls_world (· = W) hW.symm ?_
  rw [← hW] at HC HRs HR HF HBf
  clear hW
  intro W0 e0
  rw [e0]
  clear e0
  refine (hasG_any G R cR k B0 n c0 j W HC.out.1 HC.out.2 HJ.out).mono ?_
  rintro r w1 ⟨rfl, e1⟩
  rw [e1]
  clear e1 w1
  obtain ⟨q1, q2⟩ := HC.out
  have q3 : (0 : Int) < ((k : Int) + 1) := by omega
  go_wp2_with first
    | (refine wpList_load_mid rfl 33 (.tmp 21) rfl B0 (j * 16) rfl (kv .u8 s) _ HRs.out Tryd.underlying33 rfl (by rw [info33L, List.length_map, HSl.out]) ?_)
    | (refine wpList_store_row rfl 33 (.tmp 4) (.tmp 22) rfl w.heap.size (kv .u8 s).toArray rfl rfl 33 _ HR.out (cells50 HSl.out) (size50 HSl.out) (kv_all _ _) ?_)
  refine bodyPost_ret (v := .tuple #[dgV s, .int .i64 0]) ?_ rfl ⟨rfl, HBf.out⟩
  exact results_row_slot rfl _ _ w.heap.size 33 _ (0, 0) _ _ rfl rfl HF.out Tryd.underlying33 rfl (cells50 HSl.out)
theorem Blk.setCells_size {b : Nat} {t : TypeId} : ∀ (vs : List Value) (o : Nat) (w : World) (cs : Array Value), Blk w b (.cells cs t) → ∃ cs', Blk (w.setCells b o vs) b (.cells cs' t) ∧ cs'.size = cs.size
  | [], _, _, cs, h => ⟨cs, h, rfl⟩
  | v :: r, o, w, cs, h => by
    obtain ⟨cs', h1, h2⟩ := Blk.setCells_size r (o + 1) _ _ (Blk.set h o v)
    exact ⟨cs', h1, by rw [h2]; simp⟩
theorem grown_setCells {w0 : World} {b : Nat} : ∀ (vs : List Value) (o : Nat) (w : World), w0.grownBy w (some b) → w0.grownBy (w.setCells b o vs) (some b)
  | [], _, _, h => h
  | v :: r, o, w, h => grown_setCells r (o + 1) _ ⟨h.os, h.tape, h.output, by simpa [World.setCell] using h.size, fun k hk hne => (heap_setCell_other w ⟨b, o, none⟩ k v (fun e => hne (by rw [e]))).trans (h.block k hk hne)⟩
theorem HoldsS.grown {w w' : World} {a : Option Addr} {n cap : Nat} {l : List Int} {row : Option Nat} (h : HoldsS w (.slice a n cap) n l) (hg : w.grownBy w' row) (hne : ∀ x, a = some x → 0 < n → some x.block ≠ row) : HoldsS w' (.slice a n cap) n l := by
  obtain ⟨a', c', e, h1, h2, h3, h4⟩ := h
  simp only [Value.slice.injEq] at e
  obtain ⟨rfl, -, rfl⟩ := e
  refine ⟨a, cap, rfl, h1, h2, h3, fun h0 => ?_⟩
  obtain ⟨b, off, ha, hlt, hc⟩ := h4 h0
  refine ⟨b, off, ha, Nat.lt_of_lt_of_le hlt hg.size, fun j hj => ?_⟩
  exact (World.cell?_of_block (w := w) (a := ⟨b, off + j, Option.none⟩) (hg.block b hlt (hne _ ha h0))).trans (hc j hj)
/-- A row of the call's own, to be written. -/
theorem own_block {w : World} {base n : Nat} {v : Value} {xs : List Value} (h : w.ownsRow base 33 16 v n xs) (h0 : 0 < n) : ∃ I c cs, v = .slice (some ⟨I, 0, none⟩) n c ∧ base ≤ I ∧ Blk w I (.cells cs 33) ∧ n * 16 ≤ cs.size := by
  rcases h.2 with ⟨_, hz⟩ | ⟨g, cap, cur, rfl, hb, hg, hle, _, hs, _⟩
  · omega
  · exact ⟨g, cap, cur, rfl, hb, hg, by rw [hs]; exact Nat.mul_le_mul_right _ hle⟩
theorem blk_there {w : World} {I : Nat} {cs : Array Value} {i n : Nat} (h : Blk w I (.cells cs 33)) (hi : i < n) (hs : n * 16 ≤ cs.size) : w.there I (i * 16) 16 := fun j hj => by
  refine ⟨?_, h.frozen _⟩
  rw [h.cell]
  have : i * 16 + j < cs.size := by omega
  rw [Array.getElem?_eq_getElem this]
  rfl
end Go.Proofs.YtahmioiefmheeaaDoor
