/-
  grove: has, Root, Path of a tree.
  The grove of a spring: what its making keeps.
-/
import Derived.Test.YtibbinenhmiclaaDoorSo14
namespace Go.Proofs.YtibbinenhmiclaaDoor
open Go.RowKit

/-- A tree in memory. -/
def GroveAt (w : World) (G : Nat) (d e : Int) (L : List Int) (k : Nat) : Prop := ∃ v, Blk w G (.cells #[v] 108) ∧ GrowAt w v (lvls5 d e L k (k + 1))
theorem GroveAt.keep {w w' : World} {G : Nat} {d e : Int} {L : List Int} {k : Nat} (h : GroveAt w G d e L k) (hb : Below w.heap.size w w') : GroveAt w' G d e L k := by
  obtain ⟨v, h1, h2⟩ := h
  exact ⟨v, h1.keep hb, h2.keep hb⟩
theorem xor_64 : ∀ c : Nat, c < 64 → bits .xor .i64 (c : Int) 1 = ((if c % 2 = 1 then c - 1 else c + 1 : Nat) : Int) := by decide
set_option maxRecDepth 100000 in
theorem hasG_any (G R cR M B n c j : Nat) (w : World) (c1 : w.cell? ⟨G, 0, none⟩ = some (.slice (some ⟨R, 0, none⟩) (M + 1) cR)) (c2 : w.cell? ⟨R, 0, none⟩ = some (.slice (some ⟨B, 0, none⟩) n c)) (hj : j < n) :
    Calls Tryd.prog 47 #[.pointer (some ⟨G, 0, none⟩), .int .i64 j] w fun r w' => r = .returned (.bool true) ∧ w' = w := by
  have h1 : (0 : Int) < ((M : Int) + 1) := by omega
  have h2 : (0 : Int) ≤ (j : Int) := by omega
  have h3 : (j : Int) < (n : Int) := by omega
  go_enter Tryd.func47, Tryd.ntmps47
  go_wp2_with fail
  go_ret
  exact ⟨rfl, rfl⟩
set_option maxRecDepth 100000 in
set_option maxHeartbeats 4000000 in
theorem rootG_any (d e : Int) (L : List Int) (k G : Nat) (w : World) (hL : L.length = 2 ^ k * 16) (hk : k ≤ 6) (hg : GroveAt w G d e L k) :
    Calls Tryd.prog 33 #[.pointer (some ⟨G, 0, none⟩)] w fun r w' => r = .returned (dgV (nodeG d e L k 0)) ∧ Below w.heap.size w w' := by
  obtain ⟨v, hG, R, cR, rfl, hcap, hR, hel⟩ := hg
  obtain ⟨B0, c0, hc0, -, -⟩ := hel 0 (by rw [lvls5_len]; omega)
  rw [lvls5_get d e L k (k + 1) 0 (by omega), lvlG_len hL (Nat.zero_le _), Nat.sub_zero, Nat.mul_div_cancel _ (by decide)] at hc0
  obtain ⟨B, cB, hcB, hrB, hBl⟩ := hel k (by rw [lvls5_len]; omega)
  rw [lvls5_get d e L k (k + 1) k (by omega), lvlG_len hL (Nat.le_refl _), Nat.sub_self, Nat.mul_div_cancel _ (by decide)] at hcB
  rw [lvls5_get d e L k (k + 1) k (by omega)] at hrB
  have hcg : w.cell? ⟨G, 0, none⟩ = some (.slice (some ⟨R, 0, none⟩) (k + 1) cR) := by have h := hG.cell 0; rw [lvls5_len] at h; exact h
  obtain ⟨s, hs⟩ : ∃ s, s = nodeG d e L k 0 := ⟨_, rfl⟩
  have hlv : lvlG d e L k k = s := by rw [hs, lvlG, Nat.sub_self]; simp [rowsL]
  rw [hlv] at hrB
  have HSl : Kp (s.length = 16) := ⟨by rw [hs]; exact nodeG_len hL k 0 (by omega)⟩
  have HSe : Kp (s = nodeG d e L k 0) := ⟨hs⟩
  have hGl := hG.lt
  obtain ⟨A, hA⟩ : ∃ A, A = w.heap.size := ⟨_, rfl⟩
  have HA := Kp.mk hA
  have HF : Kp (w.cell? ⟨G, 0, none⟩ = some (.slice (some ⟨R, 0, none⟩) (k + 1) cR) ∧ w.cell? ⟨R, 0, none⟩ = some (.slice (some ⟨B0, 0, none⟩) (2 ^ k) c0) ∧ w.cell? ⟨R, k, none⟩ = some (.slice (some ⟨B, 0, none⟩) 1 cB) ∧ w.rangeAt B 0 (kv .u8 s) ∧ G < w.heap.size ∧ R < w.heap.size ∧ B < w.heap.size) := ⟨hcg, hc0, hcB, hrB, hGl, hR, hBl⟩
  clear hs hlv hG hcap hR hel hc0 hcB hrB hBl hcg hGl
  go_enter Tryd.func33, Tryd.ntmps33
  go_wp2_with fail
  rw [← hA]
  refine calls_world (fun W => Row W A 43 .u8 (fill 16 []) ∧ Below A w W ∧ Below w.heap.size w W) ⟨Blk.newAt _ hA, by rw [hA]; exact more (Below.refl _ _) _, more (Below.refl _ _) _⟩ ?_
  clear hA
  rintro W ⟨g1, g2, g3⟩
  have G1 := Kp.mk g1
  have G5 := Kp.mk g2
  have G2 : Kp (W.cell? ⟨G, 0, none⟩ = some (.slice (some ⟨R, 0, none⟩) (k + 1) cR) ∧ G < W.heap.size) := ⟨(g3.cell (p := ⟨G, 0, none⟩) HF.out.2.2.2.2.1).trans HF.out.1, Nat.lt_of_lt_of_le HF.out.2.2.2.2.1 g3.size⟩
  have G3 : Kp (W.cell? ⟨R, k, none⟩ = some (.slice (some ⟨B, 0, none⟩) 1 cB) ∧ R < W.heap.size) := ⟨(g3.cell (p := ⟨R, k, none⟩) HF.out.2.2.2.2.2.1).trans HF.out.2.2.1, Nat.lt_of_lt_of_le HF.out.2.2.2.2.2.1 g3.size⟩
  have G4 : Kp (W.rangeAt B 0 (kv .u8 s) ∧ B < W.heap.size) := ⟨fun j v hj => (g3.cell (p := ⟨B, 0 + j, none⟩) HF.out.2.2.2.2.2.2).trans (HF.out.2.2.2.1 j v hj), Nat.lt_of_lt_of_le HF.out.2.2.2.2.2.2 g3.size⟩
  have G0 : Kp (W.cell? ⟨R, 0, none⟩ = some (.slice (some ⟨B0, 0, none⟩) (2 ^ k) c0)) := ⟨(g3.cell (p := ⟨R, 0, none⟩) HF.out.2.2.2.2.2.1).trans HF.out.2.1⟩
  clear g1 g2 g3
  refine (hasG_any G R cR k B0 (2 ^ k) c0 0 W G2.out.1 G0.out (Nat.pow_pos (by decide))).mono ?_
  rintro r w1 ⟨rfl, e1⟩
  rw [e1]
  clear e1 w1 G0
  go_wp2_with fail
  refine wp_region_pred (fun w' => Row w' A 43 .u8 (fill 16 []) ∧ (w'.cell? ⟨G, 0, none⟩ = some (.slice (some ⟨R, 0, none⟩) (k + 1) cR) ∧ G < w'.heap.size) ∧ (w'.cell? ⟨R, k, none⟩ = some (.slice (some ⟨B, 0, none⟩) 1 cB) ∧ R < w'.heap.size) ∧ (w'.rangeAt B 0 (kv .u8 s) ∧ B < w'.heap.size) ∧ Below A w w') [0, 1, 2, 3, 4, 5, 6, 7, 8, 9, 10, 11, 12, 13] [14]
    (fun ι w' v => match ι with
      | 0 | 1 | 2 | 4 | 5 | 6 => v = .pointer (some ⟨G, 0, none⟩)
      | 3 | 7 => v = .slice (some ⟨R, 0, none⟩) (k + 1) cR
      | 8 => v = .int .i64 ((k : Int) + 1)
      | 9 => v = .int .i64 k
      | 10 => v = .pointer (some ⟨R, k, none⟩)
      | 11 => v = .slice (some ⟨B, 0, none⟩) 1 cB
      | 12 => v = .pointer (some ⟨B, 0, none⟩)
      | 13 => v = dgV s
      | _ => v = .bool true)
    [[], [(0, some 7)], [(1, some 8)], [(2, some 9)], [], [(4, some 11)], [(5, some 12)], [(6, some 13)], [(7, some 14)], [(8, some 15)], [(3, some 10), (9, some 16)], [(10, some 17)], [(11, some 18)], [(12, some 19)]]
    [(0, some 7), (1, some 8), (2, some 9), (3, some 10), (4, some 11), (5, some 12), (6, some 13), (7, some 14), (8, some 15), (9, some 16), (10, some 17), (11, some 18), (12, some 19), (13, some 20)]
    (by kernel_rfl) (by kernel_rfl) (by kernel_rfl) (by kernel_rfl) (by kernel_rfl) (by kernel_rfl) (by decide) (by decide) (fun w1 w2 h hb => ⟨h.1.keep hb, ⟨(hb.cell (p := ⟨G, 0, none⟩) h.2.1.2).trans h.2.1.1, Nat.lt_of_lt_of_le h.2.1.2 hb.size⟩, ⟨(hb.cell (p := ⟨R, k, none⟩) h.2.2.1.2).trans h.2.2.1.1, Nat.lt_of_lt_of_le h.2.2.1.2 hb.size⟩, ⟨fun j v hj => (hb.cell (p := ⟨B, 0 + j, none⟩) h.2.2.2.1.2).trans (h.2.2.2.1.1 j v hj), Nat.lt_of_lt_of_le h.2.2.2.1.2 hb.size⟩, h.2.2.2.2.trans (hb.mono (Nat.le_of_lt h.1.lt))⟩) ?_ ⟨G1.out.drew, G2.out, G3.out, G4.out, G5.out.drew⟩ ?_ ?_
  · intro ι w1 w2 v h hb
    match ι, h with
    | 0, h => exact h
    | 1, h => exact h
    | 2, h => exact h
    | 3, h => exact h
    | 4, h => exact h
    | 5, h => exact h
    | 6, h => exact h
    | 7, h => exact h
    | 8, h => exact h
    | 9, h => exact h
    | 10, h => exact h
    | 11, h => exact h
    | 12, h => exact h
    | 13, h => exact h
    | _ + 14, h => exact h
  · refine ⟨fun γ wx hS h => ?_, fun γ wx hS h => ?_, fun γ wx hS h => ?_, fun γ wx hS h => ?_, fun γ wx hS h => ?_, fun γ wx hS h => ?_, fun γ wx hS h => ?_, fun γ wx hS h => ?_, fun γ wx hS h => ?_, fun γ wx hS h => ?_, fun γ wx hS h => ?_, fun γ wx hS h => ?_, fun γ wx hS h => ?_, fun γ wx hS h => ?_, trivial⟩
    · refine ⟨_, rfl, Or.inl ⟨rfl, predRun_value (v := .pointer (some ⟨G, 0, none⟩)) (by simp only [putE]; first | rfl | (go_simp; done) | (go_simp; with_reducible rfl) | (go_simp; rfl)) rfl⟩⟩
    · have h0 := h
      have e0 : γ 0 = .pointer (some ⟨G, 0, none⟩) := h0
      refine ⟨_, rfl, Or.inl ⟨rfl, predRun_value (v := .pointer (some ⟨G, 0, none⟩)) (by simp only [putE, e0]; first | rfl | (go_simp; done) | (go_simp; with_reducible rfl) | (go_simp; rfl)) rfl⟩⟩
    · have h1 := h
      have e1 : γ 1 = .pointer (some ⟨G, 0, none⟩) := h1
      refine ⟨_, rfl, Or.inl ⟨rfl, predRun_value (v := .pointer (some ⟨G, 0, none⟩)) (by simp only [putE, e1]; first | rfl | (go_simp; done) | (go_simp; with_reducible rfl) | (go_simp; rfl)) rfl⟩⟩
    · have h2 := h
      have e2 : γ 2 = .pointer (some ⟨G, 0, none⟩) := h2
      refine ⟨_, rfl, Or.inl ⟨rfl, predRun_value (v := .slice (some ⟨R, 0, none⟩) (k + 1) cR) (by simp only [putE, e2]; have q1 := hS.2.1.1; first | rfl | (go_simp; done) | (go_simp; with_reducible rfl) | (go_simp; rfl)) rfl⟩⟩
    · refine ⟨_, rfl, Or.inl ⟨rfl, predRun_value (v := .pointer (some ⟨G, 0, none⟩)) (by simp only [putE]; first | rfl | (go_simp; done) | (go_simp; with_reducible rfl) | (go_simp; rfl)) rfl⟩⟩
    · have h4 := h
      have e4 : γ 4 = .pointer (some ⟨G, 0, none⟩) := h4
      refine ⟨_, rfl, Or.inl ⟨rfl, predRun_value (v := .pointer (some ⟨G, 0, none⟩)) (by simp only [putE, e4]; first | rfl | (go_simp; done) | (go_simp; with_reducible rfl) | (go_simp; rfl)) rfl⟩⟩
    · have h5 := h
      have e5 : γ 5 = .pointer (some ⟨G, 0, none⟩) := h5
      refine ⟨_, rfl, Or.inl ⟨rfl, predRun_value (v := .pointer (some ⟨G, 0, none⟩)) (by simp only [putE, e5]; first | rfl | (go_simp; done) | (go_simp; with_reducible rfl) | (go_simp; rfl)) rfl⟩⟩
    · have h6 := h
      have e6 : γ 6 = .pointer (some ⟨G, 0, none⟩) := h6
      refine ⟨_, rfl, Or.inl ⟨rfl, predRun_value (v := .slice (some ⟨R, 0, none⟩) (k + 1) cR) (by simp only [putE, e6]; have q1 := hS.2.1.1; first | rfl | (go_simp; done) | (go_simp; with_reducible rfl) | (go_simp; rfl)) rfl⟩⟩
    · have h7 := h
      have e7 : γ 7 = .slice (some ⟨R, 0, none⟩) (k + 1) cR := h7
      refine ⟨_, rfl, Or.inl ⟨rfl, predRun_value (v := .int .i64 ((k : Int) + 1)) (by simp only [putE, e7]; first | rfl | (go_simp; done) | (go_simp; with_reducible rfl) | (go_simp; rfl)) rfl⟩⟩
    · have h8 := h
      have e8 : γ 8 = .int .i64 ((k : Int) + 1) := h8
      refine ⟨_, rfl, Or.inl ⟨rfl, predRun_value (v := .int .i64 k) (by simp only [putE, e8]; have e1 : IntKind.i64.wrap (k : Int) = (k : Int) := (IntWalk.i64_in _ (by omega)); first | rfl | (go_simp; done) | (go_simp; with_reducible rfl) | (go_simp; rfl)) rfl⟩⟩
    · obtain ⟨h3, h9⟩ := h
      have e3 : γ 3 = .slice (some ⟨R, 0, none⟩) (k + 1) cR := h3
      have e9 : γ 9 = .int .i64 k := h9
      refine ⟨_, rfl, Or.inl ⟨rfl, predRun_value (exec_idx137 (x := .tmp 10) (y := .tmp 16) (R := R) (n := k + 1) (cap := cR) (j := k) rfl (by simp only [putE, e3, e9, Act.put, List.setIfInBounds_toArray, List.set_cons_zero, List.set_cons_succ]; rfl) (by simp only [putE, e3, e9, Act.put, List.setIfInBounds_toArray, List.set_cons_zero, List.set_cons_succ]; rfl) rfl (by omega)) rfl⟩⟩
    · have h10 := h
      have e10 : γ 10 = .pointer (some ⟨R, k, none⟩) := h10
      refine ⟨_, rfl, Or.inl ⟨rfl, predRun_value (v := .slice (some ⟨B, 0, none⟩) 1 cB) (by simp only [putE, e10]; have q1 := hS.2.2.1.1; first | rfl | (go_simp; done) | (go_simp; with_reducible rfl) | (go_simp; rfl)) rfl⟩⟩
    · have h11 := h
      have e11 : γ 11 = .slice (some ⟨B, 0, none⟩) 1 cB := h11
      refine ⟨_, rfl, Or.inl ⟨rfl, predRun_value (v := .pointer (some ⟨B, 0, none⟩)) (by simp only [putE, e11]; first | rfl | (go_simp; done) | (go_simp; with_reducible rfl) | (go_simp; rfl)) rfl⟩⟩
    · have h12 := h
      have e12 : γ 12 = .pointer (some ⟨B, 0, none⟩) := h12
      refine ⟨_, rfl, Or.inl ⟨rfl, predRun_value (exec_load_at33 (x := .tmp 19) (b := B) (c := 0) rfl (by simp only [putE, e12, Act.put, List.setIfInBounds_toArray, List.set_cons_zero, List.set_cons_succ]; rfl) hS.2.2.2.1.1 HSl.out) rfl⟩⟩
  · intro γ w9 hS h
    have ez : γ 13 = dgV s := h.2.2.2.2.2.2.2.2.2.2.2.2.2
    have HF := Kp.mk (hS.1.setRow s)
    have HBf := Kp.mk (Below.row hS.2.2.2.2 (g := A) (Nat.le_refl _) (kv .u8 s).toArray)
    have HGr := Kp.mk hS.1
    simp only [putE, Act.put, List.setIfInBounds_toArray, List.set_cons_zero, List.set_cons_succ]
    rw [ez]
    clear h hS ez
    refine wpOps_step rfl rfl ?_
    refine wp_store_row 43 (.tmp 2) (.tmp 20) rfl A (kv .u8 s).toArray rfl rfl 43 _ HGr.out (cells50 HSl.out) (size50 HSl.out) (kv_all _ _) ?_
    refine wpOps_done ?_
    go_wp2_with fail
    refine bodyPost_ret (v := dgV s) ?_ rfl ⟨by rw [HSe.out], by rw [← HA.out]; exact HBf.out⟩
    exact results_cell_row rfl _ _ A 43 _ (0, 0) _ rfl HF.out Tryd.underlying43 rfl (cells50 HSl.out)
set_option maxRecDepth 100000 in
set_option maxHeartbeats 4000000 in
theorem pathO_any (d e : Int) (L : List Int) (k G j : Nat) (w : World) (hL : L.length = 2 ^ k * 16) (hLb : Bytes L) (hk : k ≤ 6) (hj : j < 2 ^ k) (hg : GroveAt w G d e L k) :
    Calls Tryd.prog 36 #[.pointer (some ⟨G, 0, none⟩), .int .i64 j] w fun r w' => ∃ v', r = .returned (.tuple #[v', .int .i64 0]) ∧ HoldsS w' v' k (pathG d e L k j) ∧ Below w.heap.size w w' := by
  obtain ⟨i0, hi, hz0, hz1, hz2⟩ := info_parts info33'
  obtain ⟨v, hG, hgr⟩ := hg
  obtain ⟨R, cR, rfl, hcap, hR, hel⟩ := id hgr
  obtain ⟨B0, c0, hc0, -, -⟩ := hel 0 (by rw [lvls5_len]; omega)
  rw [lvls5_get d e L k (k + 1) 0 (by omega), lvlG_len hL (Nat.zero_le _), Nat.sub_zero, Nat.mul_div_cancel _ (by decide)] at hc0
  have hcg : w.cell? ⟨G, 0, none⟩ = some (.slice (some ⟨R, 0, none⟩) (k + 1) cR) := by have h := hG.cell 0; rw [lvls5_len] at h; exact h
  rw [lvls5_len] at hcap hgr
  have hj64 : j < 64 := by
    have : 2 ^ k ≤ 2 ^ 6 := Nat.pow_le_pow_right (by decide) hk
    omega
  have HL2 := Kp.mk hL
  have HJ := Kp.mk hj
  have HCap : Kp (k + 1 ≤ cR ∧ cR ≤ 9223372036854775807) := ⟨hcap.1, by have := hcap.2; unfold maxLen at this; exact this⟩
  have hcR := HCap.out.2
  have HPl := Kp.mk (pathG_len (d := d) (e := e) hL hj)
  have HPb := Kp.mk (pathG_bytes (d := d) (e := e) hLb k j)
  obtain ⟨A, hA⟩ : ∃ A, A = w.heap.size := ⟨_, rfl⟩
  have HA := Kp.mk hA
  have G2 : Kp (w.cell? ⟨G, 0, none⟩ = some (.slice (some ⟨R, 0, none⟩) (k + 1) cR) ∧ G < w.heap.size) := ⟨hcg, hG.lt⟩
  have GA0 : Kp (GrowAt w (.slice (some ⟨R, 0, none⟩) (k + 1) cR) (lvls5 d e L k (k + 1))) := ⟨hgr⟩
  have GA := GA0
  have GB : Kp (Below A w w ∧ A ≤ w.heap.size) := ⟨Below.refl _ _, by rw [hA]; exact Nat.le_refl _⟩
  have HC0 := Kp.mk hc0
  have hqp : ∀ w, (binOp .eql 83 (.pointer (some ⟨G, 0, none⟩)) (.pointer none)).run Tryd.prog w = .ok (.bool false) w := fun w => rfl
  clear hL hLb hj hG hcap hR hel hc0 hcg hgr hA
  go_enter Tryd.func36, Tryd.ntmps36
  go_wp2_with fail
  clear hqp
  refine (hasG_any G R cR k B0 (2 ^ k) c0 j w G2.out.1 HC0.out HJ.out).mono ?_
  rintro r w1 ⟨rfl, e1⟩
  rw [e1]
  clear e1 w1 HC0
  go_wp2_with fail
  refine wp_region_pred (fun w' => (w'.cell? ⟨G, 0, none⟩ = some (.slice (some ⟨R, 0, none⟩) (k + 1) cR) ∧ G < w'.heap.size) ∧ GrowAt w' (.slice (some ⟨R, 0, none⟩) (k + 1) cR) (lvls5 d e L k (k + 1)) ∧ (Below A w w' ∧ A ≤ w'.heap.size)) [0, 1, 2, 3, 4, 5, 6, 7, 8, 9, 10, 11, 12] []
    (fun ι w' v => match ι with
      | 0 | 1 | 2 | 4 | 5 | 6 => v = .pointer (some ⟨G, 0, none⟩)
      | 3 | 7 => v = .slice (some ⟨R, 0, none⟩) (k + 1) cR
      | 8 => v = .int .i64 ((k : Int) + 1)
      | 9 | 11 => v = .int .i64 k
      | 10 => v = .slice (some ⟨R, 0, none⟩) k cR
      | 12 => v = .int .i64 0
      | _ => v = .bool true)
    [[], [(0, some 15)], [(1, some 16)], [(2, some 17)], [], [(4, some 19)], [(5, some 20)], [(6, some 21)], [(7, some 22)], [(8, some 23)], [(3, some 18), (9, some 24)], [(10, some 25)], []]
    [(0, some 15), (1, some 16), (2, some 17), (3, some 18), (4, some 19), (5, some 20), (6, some 21), (7, some 22), (8, some 23), (9, some 24), (10, some 25), (11, some 26), (12, some 27)]
    (by kernel_rfl) (by kernel_rfl) (by kernel_rfl) (by kernel_rfl) (by kernel_rfl) (by kernel_rfl) (by decide) (by decide) (fun w1 w2 h hb => ⟨⟨(hb.cell (p := ⟨G, 0, none⟩) h.1.2).trans h.1.1, Nat.lt_of_lt_of_le h.1.2 hb.size⟩, h.2.1.keep hb, ⟨h.2.2.1.trans (hb.mono h.2.2.2), Nat.le_trans h.2.2.2 hb.size⟩⟩) ?_ ⟨G2.out, GA.out, ⟨GB.out.1.drew, GB.out.2⟩⟩ ?_ ?_
  · intro ι w1 w2 v h hb
    match ι, h with
    | 0, h => exact h
    | 1, h => exact h
    | 2, h => exact h
    | 3, h => exact h
    | 4, h => exact h
    | 5, h => exact h
    | 6, h => exact h
    | 7, h => exact h
    | 8, h => exact h
    | 9, h => exact h
    | 10, h => exact h
    | 11, h => exact h
    | 12, h => exact h
    | _ + 13, h => exact h
  · refine ⟨fun γ wx hS h => ?_, fun γ wx hS h => ?_, fun γ wx hS h => ?_, fun γ wx hS h => ?_, fun γ wx hS h => ?_, fun γ wx hS h => ?_, fun γ wx hS h => ?_, fun γ wx hS h => ?_, fun γ wx hS h => ?_, fun γ wx hS h => ?_, fun γ wx hS h => ?_, fun γ wx hS h => ?_, fun γ wx hS h => ?_, trivial⟩
    · refine ⟨_, rfl, Or.inl ⟨rfl, predRun_value (v := .pointer (some ⟨G, 0, none⟩)) (by simp only [putE]; first | rfl | (go_simp; done) | (go_simp; with_reducible rfl) | (go_simp; rfl)) rfl⟩⟩
    · have h0 := h
      have e0 : γ 0 = .pointer (some ⟨G, 0, none⟩) := h0
      refine ⟨_, rfl, Or.inl ⟨rfl, predRun_value (v := .pointer (some ⟨G, 0, none⟩)) (by simp only [putE, e0]; first | rfl | (go_simp; done) | (go_simp; with_reducible rfl) | (go_simp; rfl)) rfl⟩⟩
    · have h1 := h
      have e1 : γ 1 = .pointer (some ⟨G, 0, none⟩) := h1
      refine ⟨_, rfl, Or.inl ⟨rfl, predRun_value (v := .pointer (some ⟨G, 0, none⟩)) (by simp only [putE, e1]; first | rfl | (go_simp; done) | (go_simp; with_reducible rfl) | (go_simp; rfl)) rfl⟩⟩
    · have h2 := h
      have e2 : γ 2 = .pointer (some ⟨G, 0, none⟩) := h2
      refine ⟨_, rfl, Or.inl ⟨rfl, predRun_value (v := .slice (some ⟨R, 0, none⟩) (k + 1) cR) (by simp only [putE, e2]; have q1 := hS.1.1; first | rfl | (go_simp; done) | (go_simp; with_reducible rfl) | (go_simp; rfl)) rfl⟩⟩
    · refine ⟨_, rfl, Or.inl ⟨rfl, predRun_value (v := .pointer (some ⟨G, 0, none⟩)) (by simp only [putE]; first | rfl | (go_simp; done) | (go_simp; with_reducible rfl) | (go_simp; rfl)) rfl⟩⟩
    · have h4 := h
      have e4 : γ 4 = .pointer (some ⟨G, 0, none⟩) := h4
      refine ⟨_, rfl, Or.inl ⟨rfl, predRun_value (v := .pointer (some ⟨G, 0, none⟩)) (by simp only [putE, e4]; first | rfl | (go_simp; done) | (go_simp; with_reducible rfl) | (go_simp; rfl)) rfl⟩⟩
    · have h5 := h
      have e5 : γ 5 = .pointer (some ⟨G, 0, none⟩) := h5
      refine ⟨_, rfl, Or.inl ⟨rfl, predRun_value (v := .pointer (some ⟨G, 0, none⟩)) (by simp only [putE, e5]; first | rfl | (go_simp; done) | (go_simp; with_reducible rfl) | (go_simp; rfl)) rfl⟩⟩
    · have h6 := h
      have e6 : γ 6 = .pointer (some ⟨G, 0, none⟩) := h6
      refine ⟨_, rfl, Or.inl ⟨rfl, predRun_value (v := .slice (some ⟨R, 0, none⟩) (k + 1) cR) (by simp only [putE, e6]; have q1 := hS.1.1; first | rfl | (go_simp; done) | (go_simp; with_reducible rfl) | (go_simp; rfl)) rfl⟩⟩
    · have h7 := h
      have e7 : γ 7 = .slice (some ⟨R, 0, none⟩) (k + 1) cR := h7
      refine ⟨_, rfl, Or.inl ⟨rfl, predRun_value (v := .int .i64 ((k : Int) + 1)) (by simp only [putE, e7]; first | rfl | (go_simp; done) | (go_simp; with_reducible rfl) | (go_simp; rfl)) rfl⟩⟩
    · have h8 := h
      have e8 : γ 8 = .int .i64 ((k : Int) + 1) := h8
      refine ⟨_, rfl, Or.inl ⟨rfl, predRun_value (v := .int .i64 k) (by simp only [putE, e8]; have e1 : IntKind.i64.wrap (k : Int) = (k : Int) := (IntWalk.i64_in _ (by omega)); first | rfl | (go_simp; done) | (go_simp; with_reducible rfl) | (go_simp; rfl)) rfl⟩⟩
    · obtain ⟨h3, h9⟩ := h
      have e3 : γ 3 = .slice (some ⟨R, 0, none⟩) (k + 1) cR := h3
      have e9 : γ 9 = .int .i64 k := h9
      refine ⟨_, rfl, Or.inl ⟨rfl, predRun_value (v := .slice (some ⟨R, 0, none⟩) k cR) (by simp only [putE, e3, e9]; have q2 : (k : Int) ≤ (cR : Int) := (by have := HCap.out; omega); have q3 : (0 : Int) ≤ (k : Int) := (by omega); first | rfl | (go_simp; done) | (go_simp; with_reducible rfl) | (go_simp; rfl)) rfl⟩⟩
    · have h10 := h
      have e10 : γ 10 = .slice (some ⟨R, 0, none⟩) k cR := h10
      refine ⟨_, rfl, Or.inl ⟨rfl, predRun_value (v := .int .i64 k) (by simp only [putE, e10]; first | rfl | (go_simp; done) | (go_simp; with_reducible rfl) | (go_simp; rfl)) rfl⟩⟩
    · refine ⟨_, rfl, Or.inl ⟨rfl, predRun_value (v := .int .i64 0) (by simp only [putE]; first | rfl | (go_simp; done) | (go_simp; with_reducible rfl) | (go_simp; rfl)) rfl⟩⟩
  · intro γ w9 hS h
    have e10 : γ 10 = .slice (some ⟨R, 0, none⟩) k cR := h.2.2.2.2.2.2.2.2.2.2.1
    have e11 : γ 11 = .int .i64 k := h.2.2.2.2.2.2.2.2.2.2.2.1
    have e12 : γ 12 = .int .i64 0 := h.2.2.2.2.2.2.2.2.2.2.2.2
    have GA9 := Kp.mk hS.2.1
    have GB9 := Kp.mk hS.2.2
    simp only [putE, Act.put, List.setIfInBounds_toArray, List.set_cons_zero, List.set_cons_succ]
    rw [e10, e11, e12]
    clear h hS e10 e11 e12 G2 GA GB
    refine wpOps_done ?_
    go_wp2_with fail
    go_loopw [1, 6, 27] (fun s1 v c9 wr => ∃ l c : Nat, l ≤ k ∧ c9 = .int .i64 l ∧ s1 = .int .i64 c ∧ Kp (c = j / 2 ^ l) ∧ Kp (wr.ownsRow A 43 16 v l (bv ((pathG d e L k j).take (l * 16)))) ∧ Kp (GrowAt wr (.slice (some ⟨R, 0, none⟩) (k + 1) cR) (lvls5 d e L k (k + 1))) ∧ Kp (Below A w wr ∧ A ≤ wr.heap.size)) (fun _ _ c _ => k - (intOf c).toNat)
    case atStart => exact ⟨0, j, by omega, rfl, rfl, ⟨by simp⟩, ⟨World.ownsRow_nil _ _ _ _⟩, GA9, GB9⟩
    case round =>
      obtain ⟨l, c, hl, rfl, rfl, HC, G1, G4, G3⟩ := hrel
      clear GA9 GB9
      have hc64 : c < 64 := by rw [HC.out]; exact Nat.lt_of_le_of_lt (Nat.div_le_self _ _) hj64
      have HCn : Kp (c / 2 = j / 2 ^ (l + 1)) := ⟨by rw [HC.out, Nat.pow_succ, Nat.div_div_eq_div_mul]⟩
      by_cases hlt : l < k
      · obtain ⟨R', cR', eR, -, hR, hel⟩ := G4.out
        simp only [Value.slice.injEq, Option.some.injEq, Addr.mk.injEq, and_true] at eR
        obtain ⟨rfl, -, rfl⟩ := eR
        obtain ⟨B, cB, hcell, hrg, hBl⟩ := hel l (by rw [lvls5_len]; omega)
        rw [lvls5_get d e L k (k + 1) l (by omega), lvlG_len HL2.out hl, Nat.mul_div_cancel _ (by decide)] at hcell
        rw [lvls5_get d e L k (k + 1) l (by omega)] at hrg
        have hbe := besI_lt HJ.out hlt
        obtain ⟨b2, hb2⟩ : ∃ b, b = besI j l := ⟨_, rfl⟩
        obtain ⟨s, hs⟩ : ∃ s, s = nodeG d e L l b2 := ⟨_, rfl⟩
        rw [← hb2] at hbe
        have HSr : Kp (wr.rangeAt B (b2 * 16) (kv .u8 s)) := ⟨by
          have h9 := range_seg (i := b2) hrg (by rw [lvlG_len HL2.out hl]; omega)
          rw [lvlG_seg HL2.out hl hbe, ← hs] at h9
          exact h9⟩
        have HSl : Kp (s.length = 16) := ⟨by rw [hs]; exact nodeG_len HL2.out l _ (lvl_le hl hbe)⟩
        have HX : Kp (bv ((pathG d e L k j).take (l * 16)) ++ bv s = bv ((pathG d e L k j).take ((l + 1) * 16))) := ⟨by rw [hs, hb2, ← pathG_seg HL2.out HJ.out hlt]; exact take16 _ _⟩
        have hxor : bits .xor .i64 (c : Int) 1 = (b2 : Int) := by rw [hb2, xor_64 c hc64]; unfold besI; rw [← HC.out]
        obtain ⟨n2, hn2⟩ : ∃ n, n = 2 ^ (k - l) := ⟨_, rfl⟩
        rw [← hn2] at hbe hcell
        have hb2l : (b2 : Int) < (n2 : Int) := by omega
        have hq2 : (c : Int).tdiv 2 = ((c / 2 : Nat) : Int) := by rw [Int.tdiv_eq_ediv_of_nonneg (by omega)]; omega
        have hcl : wr.cell? ⟨R, l, none⟩ = some (.slice (some ⟨B, 0, none⟩) n2 cB) := hcell
        have hbs := build66 HSl.out
        generalize bv ((pathG d e L k j).take (l * 16)) = xs at G1 HX
        clear hb2 hs hn2 hcell hrg hel hR hBl hbe
        go_wp2_with (first
          | (refine wpList_load_mid rfl 43 (.tmp 35) rfl B (b2 * 16) rfl (kv .u8 s) _ HSr.out Tryd.underlying43 rfl (by rw [info33L, List.length_map, HSl.out]) ?_)
          | (refine wpList_buildSlice_one rfl 50 1 (.tmp 36) rfl (dgV s) rfl _ _ (hbs _) ?_)
          | (at_builtin; refine wpList_append_own _ rfl _ _ 50 rfl A 43 i0 _ 16 16 Tryd.underlying50 hi hz0 hz1 hz2 rfl (by decide) _ _ _ rfl (G1.out.alloc _) ⟨wr.heap.size, 0, none⟩ 1 1 (bv s) rfl ?c0 (row_new _ _ _) ?c2 ?c3 ?c4 ?c5 ?_))
        case c0 => rw [bv_len, HSl.out]
        case c2 => exact bv_one _
        case c3 => unfold maxLen; omega
        case c4 => omega
        case c5 => have := G3.out.2; simp; omega
        · intro v' w4 hown' hgrow _
          have HB4 : Kp (Below A w w4) := ⟨below_row_grown (G3.out.1.alloc G3.out.2 _) (by have := G3.out.2; simp; omega) (G1.out.alloc _) hgrow⟩
          have HB5 : Kp (A ≤ w4.heap.size) := ⟨Nat.le_trans G3.out.2 (Nat.le_trans (by simp) hgrow.size)⟩
          have HO4 := Kp.mk hown'
          have HY4 : Kp (GrowAt w4 (.slice (some ⟨R, 0, none⟩) (k + 1) cR) (lvls5 d e L k (k + 1))) := ⟨GA0.out.keep (by have := HB4.out; rwa [HA.out] at this)⟩
          clear hown' hgrow hbs hcl hxor
          go_wp2_with fail
          exact ⟨⟨l + 1, c / 2, by omega, by go_num, by first | rfl | (congr 1; omega), HCn, ⟨by have := HO4.out; rw [HX.out] at this; exact this⟩, HY4, ⟨HB4.out, HB5.out⟩⟩, by simp [intOf]; omega⟩
      · have hl' : l = k := by omega
        subst hl'
        have G1' := Kp.mk G1.out
        rw [List.take_of_length_le (by rw [HPl.out]; exact Nat.le_refl _)] at G1'
        go_wp2_with fail
        go_ret2
        exact ⟨_, rfl, HoldsS.ofRow HPb.out (by unfold maxLen; omega) HPl.out G1'.out, by rw [← HA.out]; exact G3.out.1⟩
end Go.Proofs.YtibbinenhmiclaaDoor

namespace Go.Proofs.YtibbinenhmiclaaDoor
open Go.RowKit

/-- How many ladders are reckoned. -/
def cntF (f : Nat → Option Value) : Nat → Nat
  | 0 => 0
  | n + 1 => cntF f n + if (f n).isSome then 1 else 0
theorem cntF_le (f : Nat → Option Value) : ∀ n, cntF f n ≤ n
  | 0 => Nat.le_refl _
  | n + 1 => by have := cntF_le f n; rw [cntF]; split <;> omega
theorem cntF_none : ∀ n, cntF (fun _ => none) n = 0
  | 0 => rfl
  | n + 1 => by rw [cntF, cntF_none n]; rfl
theorem cntF_all {f : Nat → Option Value} : ∀ {n}, (∀ i, i < n → f i ≠ none) → cntF f n = n
  | 0, _ => rfl
  | n + 1, h => by
    rw [cntF, cntF_all (fun i hi => h i (by omega)), if_pos]
    have := h n (by omega)
    cases hf : f n
    · exact absurd hf this
    · rfl
theorem cntF_off {f : Nat → Option Value} {q : Nat} {v : Value} : ∀ {n}, n ≤ q → cntF (updF f q v) n = cntF f n
  | 0, _ => rfl
  | n + 1, h => by
    rw [cntF, cntF, cntF_off (by omega)]
    have e : updF f q v n = f n := by unfold updF; rw [if_neg (by omega)]
    rw [e]
theorem cntF_upd {f : Nat → Option Value} {q : Nat} {v : Value} (h0 : f q = none) : ∀ {n}, q < n → cntF (updF f q v) n = cntF f n + 1
  | 0, h => absurd h (by omega)
  | n + 1, h => by
    rw [cntF, cntF]
    by_cases hq : q = n
    · subst hq
      have e : updF f q v q = some v := by unfold updF; rw [if_pos rfl]
      rw [cntF_off (Nat.le_refl _), e, h0]
      rfl
    · have e : updF f q v n = f n := by unfold updF; rw [if_neg (by omega)]
      rw [cntF_upd h0 (by omega), e]
      omega
/-- The ends of the first ladders. -/
def endsL (m : SpM) (k : Nat) : List Int := (List.range k).flatMap fun (i : Nat) => elR m (i : Int) m.st.toNat
theorem endsL_succ (m : SpM) (k : Nat) : endsL m (k + 1) = endsL m k ++ elR m k m.st.toNat := by simp [endsL, List.range_succ]
theorem endsL_len (m : SpM) : ∀ k, (endsL m k).length = k * 16
  | 0 => rfl
  | k + 1 => by rw [endsL_succ, List.length_append, endsL_len m k, elR_len]; omega
theorem endsL_bytes (m : SpM) : ∀ k, Bytes (endsL m k)
  | 0 => by intro x hx; simp [endsL] at hx
  | k + 1 => by
    rw [endsL_succ]
    intro x hx
    rcases List.mem_append.1 hx with h | h
    · exact endsL_bytes m k x h
    · exact elR_bytes m k _ x h
/-- An own row stays where its block stays. -/
theorem ownsRow_blk {w w' : World} {base e sz n : Nat} {v : Value} {xs : List Value} (h : w.ownsRow base e sz v n xs) (hb : ∀ k, v.ownBlock = some k → w'.heap[k]? = w.heap[k]?) : w'.ownsRow base e sz v n xs := by
  refine ⟨h.1, ?_⟩
  rcases h.2 with h2 | ⟨g, cap, cur, rfl, a1, a2, a3⟩
  · exact .inl h2
  · exact .inr ⟨g, cap, cur, rfl, a1, (hb g rfl).trans a2, a3⟩
theorem Off.own {B S C : Nat} {w w' : World} {base e sz n : Nat} {v : Value} {xs : List Value} (h : Off B S C w w') (hv : w.ownsRow base e sz v n xs) (hS : S < base) (hC : C < base) : w'.ownsRow base e sz v n xs :=
  ownsRow_blk hv fun k hk => by
    have := hv.lt k hk
    exact h.o k this.2 (by omega) (by omega)
theorem Off.grown {B S C : Nat} {w W W' : World} {row : Option Nat} (h : Off B S C w W) (hg : W.grownBy W' row) (hr : ∀ k, row = some k → w.heap.size ≤ k) (hB : B ≤ w.heap.size) : Off B S C w W' :=
  have hk : ∀ k, k < w.heap.size → W'.heap[k]? = W.heap[k]? := fun k hk => hg.block k (Nat.lt_of_lt_of_le hk h.b.size) (fun e => by have := hr k e.symm; omega)
  ⟨h.b.trans ⟨hg.os, hg.tape, hg.output, hg.size, fun k hkB => hk k (by omega)⟩, fun k hk2 h1 h2 => (hk k hk2).trans (h.o k hk2 h1 h2)⟩
theorem SpIs.grown {w w' : World} {B S C : Nat} {m : SpM} {n : Nat} {f : Nat → Option Value} {g : GS} {mk : Int} {row : Option Nat} (h : SpIs w B S C m n f g mk) (hg : w.grownBy w' row) (hS : row ≠ some S) (hC : row ≠ some C) (hv : ∀ i v k, i < n → f i = some v → v.ownBlock = some k → row ≠ some k) : SpIs w' B S C m n f g mk :=
  ⟨(hg.block S h.s.lt (fun e => hS e.symm)).trans h.s, (hg.block C h.c.lt (fun e => hC e.symm)).trans h.c, h.bs, h.bc, fun i v hi hf => ownsRow_blk (h.el i v hi hf) fun k hk => hg.block k ((h.el i v hi hf).lt k hk).2 (fun e => hv i v k hi hf hk e.symm)⟩
/-- A grove in memory, all whose blocks are such. -/
def GroveIsS (w : World) (P : Nat → Prop) (G : Nat) (m : SpM) (n k : Nat) : Prop :=
  ∃ v vs, Blk w G (.cells #[v] 108) ∧ P G ∧ w.ownsRow 0 50 1 v (k + 1) vs ∧ (∀ kk, v.ownBlock = some kk → P kk) ∧ v.ownBlock ≠ some G ∧
    ∀ i, i < k + 1 → ∃ B c, vs[i]? = some (.slice (some ⟨B, 0, none⟩) (((lvls5 m.d m.e (endsL m n) k (k + 1)).getD i []).length / 16) c) ∧ w.rangeAt B 0 (kv .u8 ((lvls5 m.d m.e (endsL m n) k (k + 1)).getD i [])) ∧ B < w.heap.size ∧ B ≠ G ∧ v.ownBlock ≠ some B ∧ P B
theorem GroveIsS.of {w : World} {D G : Nat} {m : SpM} {n k : Nat} {v : Value} (h1 : Blk w G (.cells #[v] 108)) (h2 : GrowIs w G D v (lvls5 m.d m.e (endsL m n) k (k + 1))) (h3 : D ≤ G) : GroveIsS w (fun x => D ≤ x) G m n k := by
  obtain ⟨vs, a1, a2, a3⟩ := h2
  have e := lvls5_len m.d m.e (endsL m n) k (k + 1)
  rw [e] at a1
  exact ⟨v, vs, h1, h3, ownsRow_base a1 (Nat.zero_le _), fun kk hk => (a1.lt kk hk).1, a2, fun i hi => a3 i (by omega)⟩
/-- The grove stays where its blocks stay. -/
theorem GroveIsS.blks {P : Nat → Prop} {G : Nat} {w w' : World} {m : SpM} {n k : Nat} (h : GroveIsS w P G m n k) (hs : w.heap.size ≤ w'.heap.size) (hb : ∀ x, x < w.heap.size → P x → w'.heap[x]? = w.heap[x]?) : GroveIsS w' P G m n k := by
  obtain ⟨v, vs, h1, hG, h2, hp, h3, h4⟩ := h
  refine ⟨v, vs, (hb G h1.lt hG).trans h1, hG, ownsRow_blk h2 fun kk hk => hb kk (h2.lt kk hk).2 (hp kk hk), hp, h3, fun i hi => ?_⟩
  obtain ⟨B, c, e, hr, hB, hBG, hne, hPB⟩ := h4 i hi
  exact ⟨B, c, e, fun j u hj => (World.cell?_of_block (w := w) (a := ⟨B, 0 + j, none⟩) (hb B hB hPB)).trans (hr j u hj), Nat.lt_of_lt_of_le hB hs, hBG, hne, hPB⟩
theorem Off.grove {B S C G : Nat} {P : Nat → Prop} {w w' : World} {m : SpM} {n k : Nat} (h : Off B S C w w') (hg : GroveIsS w P G m n k) (hS : ¬ P S) (hC : ¬ P C) : GroveIsS w' P G m n k :=
  hg.blks h.b.size fun x hx hp => h.o x hx (fun e => hS (e ▸ hp)) (fun e => hC (e ▸ hp))
theorem GroveIsS.keep {G : Nat} {P : Nat → Prop} {w w' : World} {m : SpM} {n k : Nat} (hg : GroveIsS w P G m n k) (hb : Below w.heap.size w w') : GroveIsS w' P G m n k :=
  hg.blks hb.size fun x hx _ => hb.block x hx
theorem GroveIsS.turn {G b : Nat} {P : Nat → Prop} {o : Obj} {w w' : World} {m : SpM} {n k : Nat} (hg : GroveIsS w P G m n k) (hT : Turn b o w w') (hb : ¬ P b) : GroveIsS w' P G m n k :=
  hg.blks hT.size fun x hx hp => hT.other x hx (fun e => hb (e ▸ hp))
/-- All a grove's blocks are there: those that are not may be forgotten. -/
theorem GroveIsS.low {G : Nat} {P : Nat → Prop} {w : World} {m : SpM} {n k : Nat} (hg : GroveIsS w P G m n k) : GroveIsS w (fun x => P x ∧ x < w.heap.size) G m n k := by
  obtain ⟨v, vs, h1, hG, h2, hp, h3, h4⟩ := hg
  refine ⟨v, vs, h1, ⟨hG, h1.lt⟩, h2, fun kk hk => ⟨hp kk hk, (h2.lt kk hk).2⟩, h3, fun i hi => ?_⟩
  obtain ⟨B, c, e, hr, hB, hBG, hne, hPB⟩ := h4 i hi
  exact ⟨B, c, e, hr, hB, hBG, hne, hPB, hB⟩
theorem GroveIsS.at {w : World} {P : Nat → Prop} {G : Nat} {m : SpM} {n k : Nat} (h : GroveIsS w P G m n k) : GroveAt w G m.d m.e (endsL m n) k := by
  obtain ⟨v, vs, h1, hG, h2, hp, h3, h4⟩ := h
  have e := lvls5_len m.d m.e (endsL m n) k (k + 1)
  have h9 : GrowIs w G 0 v (lvls5 m.d m.e (endsL m n) k (k + 1)) := by
    refine ⟨vs, by rw [e]; exact h2, h3, fun i hi => ?_⟩
    obtain ⟨B, c, e2, hr, hB, hBG, hne, hPB⟩ := h4 i (by omega)
    exact ⟨B, c, e2, hr, hB, hBG, hne, Nat.zero_le _⟩
  exact ⟨v, h1, h9.at (by rw [e]; omega)⟩
/-- The grove's making, on its way: so many ends are gathered. -/
structure TL (w : World) (B A S C n : Nat) (gl : GS) (m : SpM) (f0 : Nat → Option Value) (i : Nat) (v : Value) (f : Nat → Option Value) (W : World) : Prop where
  k : KonIs W
  sp : SpIs W B S C m n f gl (cntF f n)
  a0 : Blk W A (.cells #[.pointer (some ⟨S, 0, none⟩)] 26)
  row : W.ownsRow w.heap.size 43 16 v i (bv (endsL m i))
  sep : ∀ j u kk, j < n → f j = some u → u.ownBlock = some kk → v.ownBlock ≠ some kk
  al : ∀ j, j < i → f j ≠ none
  nw : ∀ j u kk, j < n → f j = some u → u.ownBlock = some kk → f0 j = some u ∨ w.heap.size ≤ kk
  off : Off B S C w W
  b0 : 0 < B
  bw : B ≤ w.heap.size
  sa : S < A
  ca : C < A
  aw : A < w.heap.size
theorem TL.more {w W W' : World} {B A S C n : Nat} {gl : GS} {m : SpM} {f0 : Nat → Option Value} {i : Nat} {v : Value} {f : Nat → Option Value} (h : TL w B A S C n gl m f0 i v f W) (hb : Below W.heap.size W W') : TL w B A S C n gl m f0 i v f W' :=
  ⟨h.k.keep hb, h.sp.keep hb, h.a0.keep hb, ownsRow_below h.row hb, h.sep, h.al, h.nw, h.off.more hb (Nat.le_trans h.bw h.off.b.size), h.b0, h.bw, h.sa, h.ca, h.aw⟩
theorem TL.first {w : World} {B A S C n : Nat} {gl : GS} {m : SpM} {f : Nat → Option Value} (hk : KonIs w) (hs : SpIs w B S C m n f gl (cntF f n)) (ha : Blk w A (.cells #[.pointer (some ⟨S, 0, none⟩)] 26)) (h0 : 0 < B) (hB : B ≤ w.heap.size) (hS : S < A) (hC : C < A) : TL w B A S C n gl m f 0 (.slice none 0 0) f w :=
  ⟨hk, hs, ha, ⟨rfl, .inl ⟨rfl, rfl⟩⟩, fun _ _ _ _ _ _ => by simp [Value.ownBlock], fun _ h => absurd h (by omega), fun _ _ _ _ h _ => .inl h, Off.refl _ _ _ _, h0, hB, hS, hC, ha.lt⟩
theorem TL.next {w W W' : World} {B A S C n : Nat} {gl : GS} {m : SpM} {f0 : Nat → Option Value} {i : Nat} {v x : Value} {f f' : Nat → Option Value} {mk' : Int} (h : TL w B A S C n gl m f0 i v f W) (hi : i < n) (hs : SpIs W' B S C m n f' gl mk') (hx : f' i = some x) (h1 : f i ≠ none → f' = f ∧ mk' = cntF f n)
    (h2 : f i = none → f' = updF f i x ∧ mk' = cntF f n + 1 ∧ ∀ k, x.ownBlock = some k → W.heap.size ≤ k) (ho : Off B S C W W') (hk : KonIs W') : TL w B A S C n gl m f0 i v f' W' ∧ ∀ j, j < i + 1 → f' j ≠ none := by
  have hfe : ∀ j, f j ≠ none → f' j ≠ none := fun j hj => by
    by_cases hc : f i = none
    · rw [(h2 hc).1]
      unfold updF
      split
      · simp
      · exact hj
    · rw [(h1 hc).1]; exact hj
  have hsa := h.sa
  have hca := h.ca
  have haw := h.aw
  refine ⟨⟨hk, ?_, ho.blk h.a0 (by omega) (by omega), ho.own h.row (by omega) (by omega), ?_, fun j hj => hfe j (h.al j hj), ?_, h.off.trans ho, h.b0, h.bw, hsa, hca, haw⟩, fun j hj => ?_⟩
  · by_cases hc : f i = none
    · obtain ⟨e1, e2, -⟩ := h2 hc
      have e3 : (cntF f' n : Int) = mk' := by rw [e1, e2, cntF_upd hc hi]; omega
      rw [e3]; exact hs
    · obtain ⟨e1, e2⟩ := h1 hc
      rw [e1, ← e2, ← e1]; exact hs
  · intro j u kk hj hu hkk
    by_cases hc : f i = none
    · obtain ⟨e1, e2, e3⟩ := h2 hc
      rw [e1] at hu
      unfold updF at hu
      by_cases hji : j = i
      · rw [if_pos hji] at hu
        obtain rfl := Option.some.inj hu
        intro e
        have h8 := (h.row.lt kk e).2
        have h9 := e3 kk hkk
        omega
      · rw [if_neg hji] at hu
        exact h.sep j u kk hj hu hkk
    · rw [(h1 hc).1] at hu
      exact h.sep j u kk hj hu hkk
  · intro j u kk hj hu hkk
    by_cases hc : f i = none
    · obtain ⟨e1, e2, e3⟩ := h2 hc
      rw [e1] at hu
      unfold updF at hu
      by_cases hji : j = i
      · rw [if_pos hji] at hu
        obtain rfl := Option.some.inj hu
        exact .inr (Nat.le_trans h.off.b.size (e3 kk hkk))
      · rw [if_neg hji] at hu
        exact h.nw j u kk hj hu hkk
    · rw [(h1 hc).1] at hu
      exact h.nw j u kk hj hu hkk
  · by_cases hj2 : j = i
    · rw [hj2, hx]; simp
    · exact hfe j (h.al j (by omega))
theorem TL.app {w W W' : World} {B A S C n : Nat} {gl : GS} {m : SpM} {f0 : Nat → Option Value} {i : Nat} {v : Value} {f : Nat → Option Value} {H g cap : Nat} (h : TL w B A S C n gl m f0 i v f W) (hal : ∀ j, j < i + 1 → f j ≠ none) (hg : W.grownBy W' v.ownBlock)
    (ho : W'.ownsRow w.heap.size 43 16 (.slice (some ⟨g, 0, none⟩) (i + 1) cap) (i + 1) (bv (endsL m i) ++ bv (elR m i m.st.toNat))) (hv : v.ownBlock = some g ∨ g = H) (hH : W.heap.size ≤ H) : TL w B A S C n gl m f0 (i + 1) (.slice (some ⟨g, 0, none⟩) (i + 1) cap) f W' := by
  have hsa := h.sa
  have hca := h.ca
  have haw := h.aw
  have hlo : ∀ k, v.ownBlock = some k → w.heap.size ≤ k := fun k hk => (h.row.lt k hk).1
  have hne : ∀ k, k < w.heap.size → v.ownBlock ≠ some k := fun k hk e => by have := hlo k e; omega
  refine ⟨h.k.frame (hg.block 0 h.k.pos (fun e => hne 0 (by omega) e.symm)), h.sp.grown hg (hne S (by omega)) (hne C (by omega)) (fun j u kk hj hu hkk => h.sep j u kk hj hu hkk), (hg.block A h.a0.lt (fun e => hne A (by omega) e.symm)).trans h.a0, ?_, ?_, hal, h.nw, h.off.grown hg hlo h.bw, h.b0, h.bw, hsa, hca, haw⟩
  · have e : bv (endsL m (i + 1)) = bv (endsL m i) ++ bv (elR m i m.st.toNat) := by rw [endsL_succ]; exact List.map_append
    rw [e]; exact ho
  · intro j u kk hj hu hkk e
    have e2 : g = kk := by simpa [Value.ownBlock] using e
    rcases hv with h1 | h1
    · exact h.sep j u kk hj hu hkk (by rw [h1, e2])
    · have := ((h.sp.el j u hj hu).lt kk hkk).2
      omega
end Go.Proofs.YtibbinenhmiclaaDoor
