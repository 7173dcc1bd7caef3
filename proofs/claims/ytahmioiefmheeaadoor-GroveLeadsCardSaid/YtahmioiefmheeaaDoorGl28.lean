/-
  grove: has, Root, Path of a tree.
  The law GroveLeads, walked.
  What the listed variable holds gives the walks: the standard's constants. The door's own heap meets the condition.
-/
import Derived.Test.YtahmioiefmheeaaDoorGl27
import Derived.Test.YtahmioiefmheeaaDoorRows
import Derived.ProofKit
import Derived.LaidMore
import Derived.OpenShut
import Derived.Stop.Joined
namespace Go.Proofs.YtahmioiefmheeaaDoor
open Go.RowKit

/-- A tree in memory. -/
def GroveAt (w : World) (G : Nat) (d e : Int) (L : List Int) (k : Nat) : Prop := ∃ v, Blk w G (.cells #[v] 141) ∧ GrowAt w v (lvls5 d e L k (k + 1))
theorem GroveAt.keep {w w' : World} {G : Nat} {d e : Int} {L : List Int} {k : Nat} (h : GroveAt w G d e L k) (hb : Below w.heap.size w w') : GroveAt w' G d e L k := by
  obtain ⟨v, h1, h2⟩ := h
  exact ⟨v, h1.keep hb, h2.keep hb⟩
theorem xor_64 : ∀ c : Nat, c < 64 → bits .xor .i64 (c : Int) 1 = ((if c % 2 = 1 then c - 1 else c + 1 : Nat) : Int) := by decide
set_option maxRecDepth 100000 in
theorem hasG_any (G R cR M B n c j : Nat) (w : World) (c1 : w.cell? ⟨G, 0, none⟩ = some (.slice (some ⟨R, 0, none⟩) (M + 1) cR)) (c2 : w.cell? ⟨R, 0, none⟩ = some (.slice (some ⟨B, 0, none⟩) n c)) (hj : j < n) :
    Calls Tryd.prog 103 #[.pointer (some ⟨G, 0, none⟩), .int .i64 j] w fun r w' => r = .returned (.bool true) ∧ w' = w := by
  have h1 : (0 : Int) < ((M : Int) + 1) := by omega
  have h2 : (0 : Int) ≤ (j : Int) := by omega
  have h3 : (j : Int) < (n : Int) := by omega
  go_enter Tryd.func103, Tryd.ntmps103
  go_wp2_with fail
  go_ret
  exact ⟨rfl, rfl⟩
set_option maxRecDepth 100000 in
set_option maxHeartbeats 4000000 in
theorem rootG_any (d e : Int) (L : List Int) (k G : Nat) (w : World) (hL : L.length = 2 ^ k * 16) (hk : k ≤ 6) (hg : GroveAt w G d e L k) :
    Calls Tryd.prog 63 #[.pointer (some ⟨G, 0, none⟩)] w fun r w' => r = .returned (dgV (nodeG d e L k 0)) ∧ Below w.heap.size w w' := by
  obtain ⟨v, hG, R, cR, rfl, hcap, hR, hel⟩ := hg
  obtain ⟨B0, c0, hc0, -, -⟩ := hel 0 (by rw [lvls5_len]; omega)
  rw [lvls5_get d e L k (k + 1) 0 (by omega), lvlG_len hL (Nat.zero_le _), Nat.sub_zero, Nat.mul_div_cancel _ (by decide)] at hc0
  obtain ⟨B, cB, hcB, hrB, hBl⟩ := hel k (by rw [lvls5_len]; omega)
  rw [lvls5_get d e L k (k + 1) k (by omega), lvlG_len hL (Nat.le_refl _), Nat.sub_self, Nat.mul_div_cancel _ (by decide)] at hcB
  rw [lvls5_get d e L k (k + 1) k (by omega)] at hrB
  have hcg : w.cell? ⟨G, 0, none⟩ = some (.slice (some ⟨R, 0, none⟩) (k + 1) cR) := by have h := hG.cell 0; rw [lvls5_len] at h; exact h
  obtain ⟨s, hs⟩ : ∃ s, s = nodeG d e L k 0 := ⟨_, rfl⟩
  have hlv : lvlG d e L k k = s := by rw [hs, lvlG, Nat.sub_self]; simp [rowsL]
  rw [hlv] at hrB
  have HSl : Kp (s.length = 16) := ⟨by rw [hs]; exact nodeG_len hL k 0 (by omega)⟩
  have HSe : Kp (s = nodeG d e L k 0) := ⟨hs⟩
  have hGl := hG.lt
  obtain ⟨A, hA⟩ : ∃ A, A = w.heap.size := ⟨_, rfl⟩
  have HA := Kp.mk hA
  have HF : Kp (w.cell? ⟨G, 0, none⟩ = some (.slice (some ⟨R, 0, none⟩) (k + 1) cR) ∧ w.cell? ⟨R, 0, none⟩ = some (.slice (some ⟨B0, 0, none⟩) (2 ^ k) c0) ∧ w.cell? ⟨R, k, none⟩ = some (.slice (some ⟨B, 0, none⟩) 1 cB) ∧ w.rangeAt B 0 (kv .u8 s) ∧ G < w.heap.size ∧ R < w.heap.size ∧ B < w.heap.size) := ⟨hcg, hc0, hcB, hrB, hGl, hR, hBl⟩
  clear hs hlv hG hcap hR hel hc0 hcB hrB hBl hcg hGl
  go_enter Tryd.func63, Tryd.ntmps63
  go_wp2_with fail
  rw [← hA]
  refine calls_world (fun W => Row W A 33 .u8 (fill 16 []) ∧ Below A w W ∧ Below w.heap.size w W) ⟨Blk.newAt _ hA, by rw [hA]; exact more (Below.refl _ _) _, more (Below.refl _ _) _⟩ ?_
  clear hA
  rintro W ⟨g1, g2, g3⟩
  have G1 := Kp.mk g1
  have G5 := Kp.mk g2
  have G2 : Kp (W.cell? ⟨G, 0, none⟩ = some (.slice (some ⟨R, 0, none⟩) (k + 1) cR) ∧ G < W.heap.size) := ⟨(g3.cell (p := ⟨G, 0, none⟩) HF.out.2.2.2.2.1).trans HF.out.1, Nat.lt_of_lt_of_le HF.out.2.2.2.2.1 g3.size⟩
  have G3 : Kp (W.cell? ⟨R, k, none⟩ = some (.slice (some ⟨B, 0, none⟩) 1 cB) ∧ R < W.heap.size) := ⟨(g3.cell (p := ⟨R, k, none⟩) HF.out.2.2.2.2.2.1).trans HF.out.2.2.1, Nat.lt_of_lt_of_le HF.out.2.2.2.2.2.1 g3.size⟩
  have G4 : Kp (W.rangeAt B 0 (kv .u8 s) ∧ B < W.heap.size) := ⟨fun j v hj => (g3.cell (p := ⟨B, 0 + j, none⟩) HF.out.2.2.2.2.2.2).trans (HF.out.2.2.2.1 j v hj), Nat.lt_of_lt_of_le HF.out.2.2.2.2.2.2 g3.size⟩
  have G0 : Kp (W.cell? ⟨R, 0, none⟩ = some (.slice (some ⟨B0, 0, none⟩) (2 ^ k) c0)) := ⟨(g3.cell (p := ⟨R, 0, none⟩) HF.out.2.2.2.2.2.1).trans HF.out.2.1⟩
  clear g1 g2 g3
  refine (hasG_any G R cR k B0 (2 ^ k) c0 0 W G2.out.1 G0.out (Nat.pow_pos (by decide))).mono ?_
  rintro r w1 ⟨rfl, e1⟩
  rw [e1]
  clear e1 w1 G0
  go_wp2_with fail
  refine wp_region_pred (fun w' => Row w' A 33 .u8 (fill 16 []) ∧ (w'.cell? ⟨G, 0, none⟩ = some (.slice (some ⟨R, 0, none⟩) (k + 1) cR) ∧ G < w'.heap.size) ∧ (w'.cell? ⟨R, k, none⟩ = some (.slice (some ⟨B, 0, none⟩) 1 cB) ∧ R < w'.heap.size) ∧ (w'.rangeAt B 0 (kv .u8 s) ∧ B < w'.heap.size) ∧ Below A w w') [0, 1, 2, 3, 4, 5, 6, 7, 8, 9, 10, 11, 12, 13] [14]
    (fun ι w' v => match ι with
      | 0 | 1 | 2 | 4 | 5 | 6 => v = .pointer (some ⟨G, 0, none⟩)
      | 3 | 7 => v = .slice (some ⟨R, 0, none⟩) (k + 1) cR
      | 8 => v = .int .i64 ((k : Int) + 1)
      | 9 => v = .int .i64 k
      | 10 => v = .pointer (some ⟨R, k, none⟩)
      | 11 => v = .slice (some ⟨B, 0, none⟩) 1 cB
      | 12 => v = .pointer (some ⟨B, 0, none⟩)
      | 13 => v = dgV s
      | _ => v = .bool true)
    [[], [(0, some 7)], [(1, some 8)], [(2, some 9)], [], [(4, some 11)], [(5, some 12)], [(6, some 13)], [(7, some 14)], [(8, some 15)], [(3, some 10), (9, some 16)], [(10, some 17)], [(11, some 18)], [(12, some 19)]]
    [(0, some 7), (1, some 8), (2, some 9), (3, some 10), (4, some 11), (5, some 12), (6, some 13), (7, some 14), (8, some 15), (9, some 16), (10, some 17), (11, some 18), (12, some 19), (13, some 20)]
    (by kernel_rfl) (by kernel_rfl) (by kernel_rfl) (by kernel_rfl) (by kernel_rfl) (by kernel_rfl) (by decide) (by decide) (fun w1 w2 h hb => ⟨h.1.keep hb, ⟨(hb.cell (p := ⟨G, 0, none⟩) h.2.1.2).trans h.2.1.1, Nat.lt_of_lt_of_le h.2.1.2 hb.size⟩, ⟨(hb.cell (p := ⟨R, k, none⟩) h.2.2.1.2).trans h.2.2.1.1, Nat.lt_of_lt_of_le h.2.2.1.2 hb.size⟩, ⟨fun j v hj => (hb.cell (p := ⟨B, 0 + j, none⟩) h.2.2.2.1.2).trans (h.2.2.2.1.1 j v hj), Nat.lt_of_lt_of_le h.2.2.2.1.2 hb.size⟩, h.2.2.2.2.trans (hb.mono (Nat.le_of_lt h.1.lt))⟩) ?_ ⟨G1.out.drew, G2.out, G3.out, G4.out, G5.out.drew⟩ ?_ ?_
  · intro ι w1 w2 v h hb
    match ι, h with
    | 0, h => exact h
    | 1, h => exact h
    | 2, h => exact h
    | 3, h => exact h
    | 4, h => exact h
    | 5, h => exact h
    | 6, h => exact h
    | 7, h => exact h
    | 8, h => exact h
    | 9, h => exact h
    | 10, h => exact h
    | 11, h => exact h
    | 12, h => exact h
    | 13, h => exact h
    | _ + 14, h => exact h
  · refine ⟨fun γ wx hS h => ?_, fun γ wx hS h => ?_, fun γ wx hS h => ?_, fun γ wx hS h => ?_, fun γ wx hS h => ?_, fun γ wx hS h => ?_, fun γ wx hS h => ?_, fun γ wx hS h => ?_, fun γ wx hS h => ?_, fun γ wx hS h => ?_, fun γ wx hS h => ?_, fun γ wx hS h => ?_, fun γ wx hS h => ?_, fun γ wx hS h => ?_, trivial⟩
    · refine ⟨_, rfl, Or.inl ⟨rfl, predRun_value (v := .pointer (some ⟨G, 0, none⟩)) (by simp only [putE]; first | rfl | (go_simp; done) | (go_simp; with_reducible rfl) | (go_simp; rfl)) rfl⟩⟩
    · have h0 := h
      have e0 : γ 0 = .pointer (some ⟨G, 0, none⟩) := h0
      refine ⟨_, rfl, Or.inl ⟨rfl, predRun_value (v := .pointer (some ⟨G, 0, none⟩)) (by simp only [putE, e0]; first | rfl | (go_simp; done) | (go_simp; with_reducible rfl) | (go_simp; rfl)) rfl⟩⟩
    · have h1 := h
      have e1 : γ 1 = .pointer (some ⟨G, 0, none⟩) := h1
      refine ⟨_, rfl, Or.inl ⟨rfl, predRun_value (v := .pointer (some ⟨G, 0, none⟩)) (by simp only [putE, e1]; first | rfl | (go_simp; done) | (go_simp; with_reducible rfl) | (go_simp; rfl)) rfl⟩⟩
    · have h2 := h
      have e2 : γ 2 = .pointer (some ⟨G, 0, none⟩) := h2
      refine ⟨_, rfl, Or.inl ⟨rfl, predRun_value (v := .slice (some ⟨R, 0, none⟩) (k + 1) cR) (by simp only [putE, e2]; have q1 := hS.2.1.1; first | rfl | (go_simp; done) | (go_simp; with_reducible rfl) | (go_simp; rfl)) rfl⟩⟩
    · refine ⟨_, rfl, Or.inl ⟨rfl, predRun_value (v := .pointer (some ⟨G, 0, none⟩)) (by simp only [putE]; first | rfl | (go_simp; done) | (go_simp; with_reducible rfl) | (go_simp; rfl)) rfl⟩⟩
    · have h4 := h
      have e4 : γ 4 = .pointer (some ⟨G, 0, none⟩) := h4
      refine ⟨_, rfl, Or.inl ⟨rfl, predRun_value (v := .pointer (some ⟨G, 0, none⟩)) (by simp only [putE, e4]; first | rfl | (go_simp; done) | (go_simp; with_reducible rfl) | (go_simp; rfl)) rfl⟩⟩
    · have h5 := h
      have e5 : γ 5 = .pointer (some ⟨G, 0, none⟩) := h5
      refine ⟨_, rfl, Or.inl ⟨rfl, predRun_value (v := .pointer (some ⟨G, 0, none⟩)) (by simp only [putE, e5]; first | rfl | (go_simp; done) | (go_simp; with_reducible rfl) | (go_simp; rfl)) rfl⟩⟩
    · have h6 := h
      have e6 : γ 6 = .pointer (some ⟨G, 0, none⟩) := h6
      refine ⟨_, rfl, Or.inl ⟨rfl, predRun_value (v := .slice (some ⟨R, 0, none⟩) (k + 1) cR) (by simp only [putE, e6]; have q1 := hS.2.1.1; first | rfl | (go_simp; done) | (go_simp; with_reducible rfl) | (go_simp; rfl)) rfl⟩⟩
    · have h7 := h
      have e7 : γ 7 = .slice (some ⟨R, 0, none⟩) (k + 1) cR := h7
      refine ⟨_, rfl, Or.inl ⟨rfl, predRun_value (v := .int .i64 ((k : Int) + 1)) (by simp only [putE, e7]; first | rfl | (go_simp; done) | (go_simp; with_reducible rfl) | (go_simp; rfl)) rfl⟩⟩
    · have h8 := h
      have e8 : γ 8 = .int .i64 ((k : Int) + 1) := h8
      refine ⟨_, rfl, Or.inl ⟨rfl, predRun_value (v := .int .i64 k) (by simp only [putE, e8]; have e1 : IntKind.i64.wrap (k : Int) = (k : Int) := (IntWalk.i64_in _ (by omega)); first | rfl | (go_simp; done) | (go_simp; with_reducible rfl) | (go_simp; rfl)) rfl⟩⟩
    · obtain ⟨h3, h9⟩ := h
      have e3 : γ 3 = .slice (some ⟨R, 0, none⟩) (k + 1) cR := h3
      have e9 : γ 9 = .int .i64 k := h9
      refine ⟨_, rfl, Or.inl ⟨rfl, predRun_value (exec_idx137 (x := .tmp 10) (y := .tmp 16) (R := R) (n := k + 1) (cap := cR) (j := k) rfl (by simp only [putE, e3, e9, Act.put, List.setIfInBounds_toArray, List.set_cons_zero, List.set_cons_succ]; rfl) (by simp only [putE, e3, e9, Act.put, List.setIfInBounds_toArray, List.set_cons_zero, List.set_cons_succ]; rfl) rfl (by omega)) rfl⟩⟩
    · have h10 := h
      have e10 : γ 10 = .pointer (some ⟨R, k, none⟩) := h10
      refine ⟨_, rfl, Or.inl ⟨rfl, predRun_value (v := .slice (some ⟨B, 0, none⟩) 1 cB) (by simp only [putE, e10]; have q1 := hS.2.2.1.1; first | rfl | (go_simp; done) | (go_simp; with_reducible rfl) | (go_simp; rfl)) rfl⟩⟩
    · have h11 := h
      have e11 : γ 11 = .slice (some ⟨B, 0, none⟩) 1 cB := h11
      refine ⟨_, rfl, Or.inl ⟨rfl, predRun_value (v := .pointer (some ⟨B, 0, none⟩)) (by simp only [putE, e11]; first | rfl | (go_simp; done) | (go_simp; with_reducible rfl) | (go_simp; rfl)) rfl⟩⟩
    · have h12 := h
      have e12 : γ 12 = .pointer (some ⟨B, 0, none⟩) := h12
      refine ⟨_, rfl, Or.inl ⟨rfl, predRun_value (exec_load_at33 (x := .tmp 19) (b := B) (c := 0) rfl (by simp only [putE, e12, Act.put, List.setIfInBounds_toArray, List.set_cons_zero, List.set_cons_succ]; rfl) hS.2.2.2.1.1 HSl.out) rfl⟩⟩
  · intro γ w9 hS h
    have ez : γ 13 = dgV s := h.2.2.2.2.2.2.2.2.2.2.2.2.2
    have HF := Kp.mk (hS.1.setRow s)
    have HBf := Kp.mk (Below.row hS.2.2.2.2 (g := A) (Nat.le_refl _) (kv .u8 s).toArray)
    have HGr := Kp.mk hS.1
    simp only [putE, Act.put, List.setIfInBounds_toArray, List.set_cons_zero, List.set_cons_succ]
    rw [ez]
    clear h hS ez
    refine wpOps_step rfl rfl ?_
    refine wp_store_row 33 (.tmp 2) (.tmp 20) rfl A (kv .u8 s).toArray rfl rfl 33 _ HGr.out (cells50 HSl.out) (size50 HSl.out) (kv_all _ _) ?_
    refine wpOps_done ?_
    go_wp2_with fail
    refine bodyPost_ret (v := dgV s) ?_ rfl ⟨by rw [HSe.out], by rw [← HA.out]; exact HBf.out⟩
    exact results_cell_row rfl _ _ A 33 _ (0, 0) _ rfl HF.out Tryd.underlying33 rfl (cells50 HSl.out)
set_option maxRecDepth 100000 in
set_option maxHeartbeats 4000000 in
theorem pathO_any (d e : Int) (L : List Int) (k G j : Nat) (w : World) (hL : L.length = 2 ^ k * 16) (hLb : Bytes L) (hk : k ≤ 6) (hj : j < 2 ^ k) (hg : GroveAt w G d e L k) :
    Calls Tryd.prog 66 #[.pointer (some ⟨G, 0, none⟩), .int .i64 j] w fun r w' => ∃ v', r = .returned (.tuple #[v', .int .i64 0]) ∧ HoldsS w' v' k (pathG d e L k j) ∧ Below w.heap.size w w' := by
  obtain ⟨i0, hi, hz0, hz1, hz2⟩ := info_parts info33'
  obtain ⟨v, hG, hgr⟩ := hg
  obtain ⟨R, cR, rfl, hcap, hR, hel⟩ := id hgr
  obtain ⟨B0, c0, hc0, -, -⟩ := hel 0 (by rw [lvls5_len]; omega)
  rw [lvls5_get d e L k (k + 1) 0 (by omega), lvlG_len hL (Nat.zero_le _), Nat.sub_zero, Nat.mul_div_cancel _ (by decide)] at hc0
  have hcg : w.cell? ⟨G, 0, none⟩ = some (.slice (some ⟨R, 0, none⟩) (k + 1) cR) := by have h := hG.cell 0; rw [lvls5_len] at h; exact h
  rw [lvls5_len] at hcap hgr
  have hj64 : j < 64 := by
    have : 2 ^ k ≤ 2 ^ 6 := Nat.pow_le_pow_right (by decide) hk
    omega
  have HL2 := Kp.mk hL
  have HJ := Kp.mk hj
  have HCap : Kp (k + 1 ≤ cR ∧ cR ≤ 9223372036854775807) := ⟨hcap.1, by have := hcap.2; unfold maxLen at this; exact this⟩
  have hcR := HCap.out.2
  have HPl := Kp.mk (pathG_len (d := d) (e := e) hL hj)
  have HPb := Kp.mk (pathG_bytes (d := d) (e := e) hLb k j)
  obtain ⟨A, hA⟩ : ∃ A, A = w.heap.size := ⟨_, rfl⟩
  have HA := Kp.mk hA
  have G2 : Kp (w.cell? ⟨G, 0, none⟩ = some (.slice (some ⟨R, 0, none⟩) (k + 1) cR) ∧ G < w.heap.size) := ⟨hcg, hG.lt⟩
  have GA0 : Kp (GrowAt w (.slice (some ⟨R, 0, none⟩) (k + 1) cR) (lvls5 d e L k (k + 1))) := ⟨hgr⟩
  have GA := GA0
  have GB : Kp (Below A w w ∧ A ≤ w.heap.size) := ⟨Below.refl _ _, by rw [hA]; exact Nat.le_refl _⟩
  have HC0 := Kp.mk hc0
  have hqp : ∀ w, (binOp .eql 85 (.pointer (some ⟨G, 0, none⟩)) (.pointer none)).run Tryd.prog w = .ok (.bool false) w := fun w => rfl
  clear hL hLb hj hG hcap hR hel hc0 hcg hgr hA
  go_enter Tryd.func66, Tryd.ntmps66
  go_wp2_with fail
  clear hqp
  refine (hasG_any G R cR k B0 (2 ^ k) c0 j w G2.out.1 HC0.out HJ.out).mono ?_
  rintro r w1 ⟨rfl, e1⟩
  rw [e1]
  clear e1 w1 HC0
  go_wp2_with fail
  refine wp_region_pred (fun w' => (w'.cell? ⟨G, 0, none⟩ = some (.slice (some ⟨R, 0, none⟩) (k + 1) cR) ∧ G < w'.heap.size) ∧ GrowAt w' (.slice (some ⟨R, 0, none⟩) (k + 1) cR) (lvls5 d e L k (k + 1)) ∧ (Below A w w' ∧ A ≤ w'.heap.size)) [0, 1, 2, 3, 4, 5, 6, 7, 8, 9, 10, 11, 12] []
    (fun ι w' v => match ι with
      | 0 | 1 | 2 | 4 | 5 | 6 => v = .pointer (some ⟨G, 0, none⟩)
      | 3 | 7 => v = .slice (some ⟨R, 0, none⟩) (k + 1) cR
      | 8 => v = .int .i64 ((k : Int) + 1)
      | 9 | 11 => v = .int .i64 k
      | 10 => v = .slice (some ⟨R, 0, none⟩) k cR
      | 12 => v = .int .i64 0
      | _ => v = .bool true)
    [[], [(0, some 15)], [(1, some 16)], [(2, some 17)], [], [(4, some 19)], [(5, some 20)], [(6, some 21)], [(7, some 22)], [(8, some 23)], [(3, some 18), (9, some 24)], [(10, some 25)], []]
    [(0, some 15), (1, some 16), (2, some 17), (3, some 18), (4, some 19), (5, some 20), (6, some 21), (7, some 22), (8, some 23), (9, some 24), (10, some 25), (11, some 26), (12, some 27)]
    (by kernel_rfl) (by kernel_rfl) (by kernel_rfl) (by kernel_rfl) (by kernel_rfl) (by kernel_rfl) (by decide) (by decide) (fun w1 w2 h hb => ⟨⟨(hb.cell (p := ⟨G, 0, none⟩) h.1.2).trans h.1.1, Nat.lt_of_lt_of_le h.1.2 hb.size⟩, h.2.1.keep hb, ⟨h.2.2.1.trans (hb.mono h.2.2.2), Nat.le_trans h.2.2.2 hb.size⟩⟩) ?_ ⟨G2.out, GA.out, ⟨GB.out.1.drew, GB.out.2⟩⟩ ?_ ?_
  · intro ι w1 w2 v h hb
    match ι, h with
    | 0, h => exact h
    | 1, h => exact h
    | 2, h => exact h
    | 3, h => exact h
    | 4, h => exact h
    | 5, h => exact h
    | 6, h => exact h
    | 7, h => exact h
    | 8, h => exact h
    | 9, h => exact h
    | 10, h => exact h
    | 11, h => exact h
    | 12, h => exact h
    | _ + 13, h => exact h
  · refine ⟨fun γ wx hS h => ?_, fun γ wx hS h => ?_, fun γ wx hS h => ?_, fun γ wx hS h => ?_, fun γ wx hS h => ?_, fun γ wx hS h => ?_, fun γ wx hS h => ?_, fun γ wx hS h => ?_, fun γ wx hS h => ?_, fun γ wx hS h => ?_, fun γ wx hS h => ?_, fun γ wx hS h => ?_, fun γ wx hS h => ?_, trivial⟩
    · refine ⟨_, rfl, Or.inl ⟨rfl, predRun_value (v := .pointer (some ⟨G, 0, none⟩)) (by simp only [putE]; first | rfl | (go_simp; done) | (go_simp; with_reducible rfl) | (go_simp; rfl)) rfl⟩⟩
    · have h0 := h
      have e0 : γ 0 = .pointer (some ⟨G, 0, none⟩) := h0
      refine ⟨_, rfl, Or.inl ⟨rfl, predRun_value (v := .pointer (some ⟨G, 0, none⟩)) (by simp only [putE, e0]; first | rfl | (go_simp; done) | (go_simp; with_reducible rfl) | (go_simp; rfl)) rfl⟩⟩
    · have h1 := h
      have e1 : γ 1 = .pointer (some ⟨G, 0, none⟩) := h1
      refine ⟨_, rfl, Or.inl ⟨rfl, predRun_value (v := .pointer (some ⟨G, 0, none⟩)) (by simp only [putE, e1]; first | rfl | (go_simp; done) | (go_simp; with_reducible rfl) | (go_simp; rfl)) rfl⟩⟩
    · have h2 := h
      have e2 : γ 2 = .pointer (some ⟨G, 0, none⟩) := h2
      refine ⟨_, rfl, Or.inl ⟨rfl, predRun_value (v := .slice (some ⟨R, 0, none⟩) (k + 1) cR) (by simp only [putE, e2]; have q1 := hS.1.1; first | rfl | (go_simp; done) | (go_simp; with_reducible rfl) | (go_simp; rfl)) rfl⟩⟩
    · refine ⟨_, rfl, Or.inl ⟨rfl, predRun_value (v := .pointer (some ⟨G, 0, none⟩)) (by simp only [putE]; first | rfl | (go_simp; done) | (go_simp; with_reducible rfl) | (go_simp; rfl)) rfl⟩⟩
    · have h4 := h
      have e4 : γ 4 = .pointer (some ⟨G, 0, none⟩) := h4
      refine ⟨_, rfl, Or.inl ⟨rfl, predRun_value (v := .pointer (some ⟨G, 0, none⟩)) (by simp only [putE, e4]; first | rfl | (go_simp; done) | (go_simp; with_reducible rfl) | (go_simp; rfl)) rfl⟩⟩
    · have h5 := h
      have e5 : γ 5 = .pointer (some ⟨G, 0, none⟩) := h5
      refine ⟨_, rfl, Or.inl ⟨rfl, predRun_value (v := .pointer (some ⟨G, 0, none⟩)) (by simp only [putE, e5]; first | rfl | (go_simp; done) | (go_simp; with_reducible rfl) | (go_simp; rfl)) rfl⟩⟩
    · have h6 := h
      have e6 : γ 6 = .pointer (some ⟨G, 0, none⟩) := h6
      refine ⟨_, rfl, Or.inl ⟨rfl, predRun_value (v := .slice (some ⟨R, 0, none⟩) (k + 1) cR) (by simp only [putE, e6]; have q1 := hS.1.1; first | rfl | (go_simp; done) | (go_simp; with_reducible rfl) | (go_simp; rfl)) rfl⟩⟩
    · have h7 := h
      have e7 : γ 7 = .slice (some ⟨R, 0, none⟩) (k + 1) cR := h7
      refine ⟨_, rfl, Or.inl ⟨rfl, predRun_value (v := .int .i64 ((k : Int) + 1)) (by simp only [putE, e7]; first | rfl | (go_simp; done) | (go_simp; with_reducible rfl) | (go_simp; rfl)) rfl⟩⟩
    · have h8 := h
      have e8 : γ 8 = .int .i64 ((k : Int) + 1) := h8
      refine ⟨_, rfl, Or.inl ⟨rfl, predRun_value (v := .int .i64 k) (by simp only [putE, e8]; have e1 : IntKind.i64.wrap (k : Int) = (k : Int) := (IntWalk.i64_in _ (by omega)); first | rfl | (go_simp; done) | (go_simp; with_reducible rfl) | (go_simp; rfl)) rfl⟩⟩
    · obtain ⟨h3, h9⟩ := h
      have e3 : γ 3 = .slice (some ⟨R, 0, none⟩) (k + 1) cR := h3
      have e9 : γ 9 = .int .i64 k := h9
      refine ⟨_, rfl, Or.inl ⟨rfl, predRun_value (v := .slice (some ⟨R, 0, none⟩) k cR) (by simp only [putE, e3, e9]; have q2 : (k : Int) ≤ (cR : Int) := (by have := HCap.out; omega); have q3 : (0 : Int) ≤ (k : Int) := (by omega); first | rfl | (go_simp; done) | (go_simp; with_reducible rfl) | (go_simp; rfl)) rfl⟩⟩
    · have h10 := h
      have e10 : γ 10 = .slice (some ⟨R, 0, none⟩) k cR := h10
      refine ⟨_, rfl, Or.inl ⟨rfl, predRun_value (v := .int .i64 k) (by simp only [putE, e10]; first | rfl | (go_simp; done) | (go_simp; with_reducible rfl) | (go_simp; rfl)) rfl⟩⟩
    · refine ⟨_, rfl, Or.inl ⟨rfl, predRun_value (v := .int .i64 0) (by simp only [putE]; first | rfl | (go_simp; done) | (go_simp; with_reducible rfl) | (go_simp; rfl)) rfl⟩⟩
  · intro γ w9 hS h
    have e10 : γ 10 = .slice (some ⟨R, 0, none⟩) k cR := h.2.2.2.2.2.2.2.2.2.2.1
    have e11 : γ 11 = .int .i64 k := h.2.2.2.2.2.2.2.2.2.2.2.1
    have e12 : γ 12 = .int .i64 0 := h.2.2.2.2.2.2.2.2.2.2.2.2
    have GA9 := Kp.mk hS.2.1
    have GB9 := Kp.mk hS.2.2
    simp only [putE, Act.put, List.setIfInBounds_toArray, List.set_cons_zero, List.set_cons_succ]
    rw [e10, e11, e12]
    clear h hS e10 e11 e12 G2 GA GB
    refine wpOps_done ?_
    go_wp2_with fail
    go_loopw [1, 6, 27] (fun s1 v c9 wr => ∃ l c : Nat, l ≤ k ∧ c9 = .int .i64 l ∧ s1 = .int .i64 c ∧ Kp (c = j / 2 ^ l) ∧ Kp (wr.ownsRow A 33 16 v l (bv ((pathG d e L k j).take (l * 16)))) ∧ Kp (GrowAt wr (.slice (some ⟨R, 0, none⟩) (k + 1) cR) (lvls5 d e L k (k + 1))) ∧ Kp (Below A w wr ∧ A ≤ wr.heap.size)) (fun _ _ c _ => k - (intOf c).toNat)
    case atStart => exact ⟨0, j, by omega, rfl, rfl, ⟨by simp⟩, ⟨World.ownsRow_nil _ _ _ _⟩, GA9, GB9⟩
    case round =>
      obtain ⟨l, c, hl, rfl, rfl, HC, G1, G4, G3⟩ := hrel
      clear GA9 GB9
      have hc64 : c < 64 := by rw [HC.out]; exact Nat.lt_of_le_of_lt (Nat.div_le_self _ _) hj64
      have HCn : Kp (c / 2 = j / 2 ^ (l + 1)) := ⟨by rw [HC.out, Nat.pow_succ, Nat.div_div_eq_div_mul]⟩
      by_cases hlt : l < k
      · obtain ⟨R', cR', eR, -, hR, hel⟩ := G4.out
        simp only [Value.slice.injEq, Option.some.injEq, Addr.mk.injEq, and_true] at eR
        obtain ⟨rfl, -, rfl⟩ := eR
        obtain ⟨B, cB, hcell, hrg, hBl⟩ := hel l (by rw [lvls5_len]; omega)
        rw [lvls5_get d e L k (k + 1) l (by omega), lvlG_len HL2.out hl, Nat.mul_div_cancel _ (by decide)] at hcell
        rw [lvls5_get d e L k (k + 1) l (by omega)] at hrg
        have hbe := besI_lt HJ.out hlt
        obtain ⟨b2, hb2⟩ : ∃ b, b = besI j l := ⟨_, rfl⟩
        obtain ⟨s, hs⟩ : ∃ s, s = nodeG d e L l b2 := ⟨_, rfl⟩
        rw [← hb2] at hbe
        have HSr : Kp (wr.rangeAt B (b2 * 16) (kv .u8 s)) := ⟨by
          have h9 := range_seg (i := b2) hrg (by rw [lvlG_len HL2.out hl]; omega)
          rw [lvlG_seg HL2.out hl hbe, ← hs] at h9
          exact h9⟩
        have HSl : Kp (s.length = 16) := ⟨by rw [hs]; exact nodeG_len HL2.out l _ (lvl_le hl hbe)⟩
        have HX : Kp (bv ((pathG d e L k j).take (l * 16)) ++ bv s = bv ((pathG d e L k j).take ((l + 1) * 16))) := ⟨by rw [hs, hb2, ← pathG_seg HL2.out HJ.out hlt]; exact take16 _ _⟩
        have hxor : bits .xor .i64 (c : Int) 1 = (b2 : Int) := by rw [hb2, xor_64 c hc64]; unfold besI; rw [← HC.out]
        obtain ⟨n2, hn2⟩ : ∃ n, n = 2 ^ (k - l) := ⟨_, rfl⟩
        rw [← hn2] at hbe hcell
        have hb2l : (b2 : Int) < (n2 : Int) := by omega
        have hq2 : (c : Int).tdiv 2 = ((c / 2 : Nat) : Int) := by rw [Int.tdiv_eq_ediv_of_nonneg (by omega)]; omega
        have hcl : wr.cell? ⟨R, l, none⟩ = some (.slice (some ⟨B, 0, none⟩) n2 cB) := hcell
        have hbs := build66 HSl.out
        generalize bv ((pathG d e L k j).take (l * 16)) = xs at G1 HX
        clear hb2 hs hn2 hcell hrg hel hR hBl hbe
        go_wp2_with (first
          | (refine wpList_load_mid rfl 33 (.tmp 35) rfl B (b2 * 16) rfl (kv .u8 s) _ HSr.out Tryd.underlying33 rfl (by rw [info33L, List.length_map, HSl.out]) ?_)
          | (refine wpList_buildSlice_one rfl 66 1 (.tmp 36) rfl (dgV s) rfl _ _ (hbs _) ?_)
          | (at_builtin; refine wpList_append_own _ rfl _ _ 66 rfl A 33 i0 _ 16 16 Tryd.underlying66 hi hz0 hz1 hz2 rfl (by decide) _ _ _ rfl (G1.out.alloc _) ⟨wr.heap.size, 0, none⟩ 1 1 (bv s) rfl ?c0 (row_new _ _ _) ?c2 ?c3 ?c4 ?c5 ?_))
        case c0 => rw [bv_len, HSl.out]
        case c2 => exact bv_one _
        case c3 => unfold maxLen; omega
        case c4 => omega
        case c5 => have := G3.out.2; simp; omega
        · intro v' w4 hown' hgrow _
          have HB4 : Kp (Below A w w4) := ⟨below_row_grown (G3.out.1.alloc G3.out.2 _) (by have := G3.out.2; simp; omega) (G1.out.alloc _) hgrow⟩
          have HB5 : Kp (A ≤ w4.heap.size) := ⟨Nat.le_trans G3.out.2 (Nat.le_trans (by simp) hgrow.size)⟩
          have HO4 := Kp.mk hown'
          have HY4 : Kp (GrowAt w4 (.slice (some ⟨R, 0, none⟩) (k + 1) cR) (lvls5 d e L k (k + 1))) := ⟨GA0.out.keep (by have := HB4.out; rwa [HA.out] at this)⟩
          clear hown' hgrow hbs hcl hxor
          go_wp2_with fail
          exact ⟨⟨l + 1, c / 2, by omega, by go_num, by first | rfl | (congr 1; omega), HCn, ⟨by have := HO4.out; rw [HX.out] at this; exact this⟩, HY4, ⟨HB4.out, HB5.out⟩⟩, by simp [intOf]; omega⟩
      · have hl' : l = k := by omega
        subst hl'
        have G1' := Kp.mk G1.out
        rw [List.take_of_length_le (by rw [HPl.out]; exact Nat.le_refl _)] at G1'
        go_wp2_with fail
        go_ret2
        exact ⟨_, rfl, HoldsS.ofRow HPb.out (by unfold maxLen; omega) HPl.out G1'.out, by rw [← HA.out]; exact G3.out.1⟩
end Go.Proofs.YtahmioiefmheeaaDoor

namespace Go.Proofs.YtahmioiefmheeaaDoor
open Go.RowKit

theorem HoldsS.rangeOf {w : World} {b off n cap i : Nat} {l : List Int} (h : HoldsS w (.slice (some ⟨b, off, Option.none⟩) n cap) n l) (hi : i < n) : w.rangeAt b (off + i * 16) (kv .u8 (segL l i)) := by
  obtain ⟨b', o', e, _, hr⟩ := h.range hi
  simp only [Option.some.injEq, Addr.mk.injEq, and_true] at e
  obtain ⟨rfl, rfl⟩ := e
  exact hr
set_option maxRecDepth 100000 in
set_option maxHeartbeats 8000000 in
theorem groveLeads_walk (x0 x1 : Int) (a2 : Option Addr) (len2 cap2 : Nat) (z2 : List Int) (w : World) (_w0 : (Lit.int .i64 x0).wf = true) (w1 : (Lit.int .u32 x1).wf = true) (w2 : HoldsS w (.slice a2 len2 cap2) len2 z2 ∧ len2 ≤ cap2 ∧ cap2 ≤ maxLen) (hk : KonIs w) :
    Calls Tryd.prog 15 #[.int .i64 x0, .int .u32 x1, .slice a2 len2 cap2] w fun e w' => e = .returned (.bool true) ∧ Below w.heap.size w w' := by
  have HE := Kp.mk (u32_wf w1)
  have HK := Kp.mk hk
  have HR2 := Kp.mk w2.1
  have hc1 := w2.2.1
  have hc2 := w2.2.2
  unfold maxLen at hc2
  clear _w0 w1 hk w2
  obtain ⟨A, hA⟩ : ∃ A, A = w.heap.size := ⟨_, rfl⟩
  have HA := Kp.mk hA
  go_enter Tryd.func15, Tryd.ntmps15
  go_wp2_with fail
  refine (cut_any a2 len2 cap2 z2 w HR2.out hc1 hc2).mono ?_
  rintro r w2 ⟨a, q, cap, L, k, rfl, HQ, hk, hh, -, hb⟩
  have HLn : Kp (L.length = q * 16 ∧ Bytes L) := ⟨by obtain ⟨_, _, _, h1, _, h2, _⟩ := hh; exact ⟨h1, h2⟩⟩
  have HL2 : Kp (L.length = 2 ^ k * 16) := ⟨by rw [HLn.out.1, HQ.out]⟩
  have hq16 : 1 ≤ q ∧ q ≤ 16 := by
    rw [HQ.out]
    rcases (show k = 0 ∨ k = 1 ∨ k = 2 ∨ k = 3 ∨ k = 4 by omega) with rfl | rfl | rfl | rfl | rfl <;> decide
  obtain ⟨b, off, rfl, -, -⟩ := hh.range (i := 0) (by omega)
  have Y2 : Kp (HoldsS w2 (.slice (some ⟨b, off, none⟩) q cap) q L) := ⟨hh⟩
  have B2 : Kp (Below A w w2 ∧ A ≤ w2.heap.size) := ⟨by rw [hA]; exact hb, by rw [hA]; exact hb.size⟩
  clear hh hb hA HR2
  go_wp2_with fail
  refine (toS_any (.slice (some ⟨b, off, none⟩) q cap) q L w2 Y2.out (by omega)).mono ?_
  rintro r w3 ⟨v3, rfl, ho, hb⟩
  have hT := HoldsS.ofRow HLn.out.2 (by unfold maxLen; omega) HLn.out.1 ho
  obtain ⟨a3, c3, rfl, -⟩ := id hT
  have T3 := Kp.mk hT
  have Y3 := Kp.mk (Y2.out.keep hb)
  have B3 : Kp (Below A w w3 ∧ A ≤ w3.heap.size) := ⟨B2.out.1.trans (hb.mono B2.out.2), Nat.le_trans B2.out.2 hb.size⟩
  clear ho hT hb Y2 B2
  go_wp2_with fail
  refine (newG_any x0 x1 a3 q c3 L k w3 (HK.out.keep (by rw [← HA.out]; exact B3.out.1)) HE.out HQ.out (by omega) T3.out).mono ?_
  rintro r w4 ⟨G, v4, rfl, h1, h2, -, hb⟩
  have YG4 : Kp (GroveAt w4 G x0 x1 L k) := ⟨v4, h1, h2.at (by rw [lvls5_len]; omega)⟩
  have Y4 := Kp.mk (Y3.out.keep hb)
  have B4 : Kp (Below A w w4 ∧ A ≤ w4.heap.size) := ⟨B3.out.1.trans (hb.mono B3.out.2), Nat.le_trans B3.out.2 hb.size⟩
  clear h1 h2 hb T3 Y3 B3
  go_wp2_with fail
  refine (awake7 w4).mono ?_
  rintro r w5 ⟨rfl, hb⟩
  have YG5 := Kp.mk (YG4.out.keep hb)
  have Y5 := Kp.mk (Y4.out.keep hb)
  have B5 : Kp (Below A w w5 ∧ A ≤ w5.heap.size) := ⟨B4.out.1.trans (hb.mono B4.out.2), Nat.le_trans B4.out.2 hb.size⟩
  clear hb YG4 Y4 B4
  have hqp : ∀ w, (binOp .eql 85 (.pointer (some ⟨G, 0, none⟩)) (.pointer none)).run Tryd.prog w = .ok (.bool false) w := fun w => rfl
  go_wp2_with fail
  clear hqp
  obtain ⟨root, hr⟩ : ∃ r, r = nodeG x0 x1 L k 0 := ⟨_, rfl⟩
  have HRl : Kp (root.length = 16 ∧ Bytes root) := ⟨by rw [hr]; exact ⟨nodeG_len HL2.out k 0 (by omega), nodeG_bytes HLn.out.2 k 0⟩⟩
  have HRt : Kp (nodeG x0 x1 L k 0 = root) := ⟨hr.symm⟩
  clear hr
  go_loopw [9, 10, 11, 34] (fun _ _ _ c wr => ∃ j : Nat, j ≤ q ∧ c = .int .i64 j ∧ Kp (HoldsS wr (.slice (some ⟨b, off, none⟩) q cap) q L) ∧ Kp (GroveAt wr G x0 x1 L k) ∧ Kp (Below A w wr ∧ A ≤ wr.heap.size)) (fun _ _ _ c _ => q - (intOf c).toNat)
  case atStart => exact ⟨0, by omega, rfl, Y5, YG5, B5⟩
  case round =>
    obtain ⟨j, hj, rfl, YL0, YG0, BB0⟩ := hrel
    clear Y5 YG5 B5
    by_cases hjq : j < q
    · have HJ : Kp (j < 2 ^ k) := ⟨by rw [← HQ.out]; exact hjq⟩
      go_wp2_with fail
      refine (pathO_any x0 x1 L k G j wr HL2.out HLn.out.2 (by omega) HJ.out YG0.out).mono ?_
      rintro r w6 ⟨v6, rfl, h1, hb⟩
      obtain ⟨a9, c9, rfl, -⟩ := id h1
      obtain ⟨Pw, hPw⟩ : ∃ P, P = pathG x0 x1 L k j := ⟨_, rfl⟩
      rw [← hPw] at h1
      have HPw := Kp.mk hPw
      have YP := Kp.mk h1
      have YL := Kp.mk (YL0.out.keep hb)
      have YG := Kp.mk (YG0.out.keep hb)
      have BB : Kp (Below A w w6 ∧ A ≤ w6.heap.size) := ⟨BB0.out.1.trans (hb.mono BB0.out.2), Nat.le_trans BB0.out.2 hb.size⟩
      obtain ⟨s, hs⟩ : ∃ s, s = segL L j := ⟨_, rfl⟩
      have HSe := Kp.mk hs
      have HSl : Kp (s.length = 16) := ⟨by rw [hs]; exact segL_len HLn.out.1 hjq⟩
      have HSb : Kp (Bytes s) := ⟨by rw [hs]; exact HLn.out.2.seg j⟩
      clear h1 hb hPw hs YL0 YG0 BB0
      go_wp2_with fail
      refine wp_region_pred (fun w' => HoldsS w' (.slice (some ⟨b, off, none⟩) q cap) q L ∧ GroveAt w' G x0 x1 L k ∧ HoldsS w' (.slice a9 k c9) k Pw ∧ (Below A w w' ∧ A ≤ w'.heap.size)) [0, 1, 2, 3, 4, 5, 6, 7, 8, 9, 10, 11, 12, 13, 14, 15, 16, 17, 18] []
        (fun ι w' v => match ι with
          | 0 => v = .int .i64 0
          | 1 | 2 | 17 | 18 => v = .bool false
          | 3 => v = .int .i64 x0
          | 4 => v = .int .u32 x1
          | 5 | 11 => v = .slice (some ⟨b, off, none⟩) q cap
          | 6 => v = .int .i64 q
          | 7 => v = .int .i64 k
          | 8 => v = .pointer (some ⟨G, 0, none⟩)
          | 9 => v = dgV root
          | 10 | 12 => v = .int .i64 j
          | 13 => v = .pointer (some ⟨b, off + j * 16, none⟩)
          | 14 => v = dgV s
          | 15 => v = .slice a9 k c9
          | _ => v = .bool true)
        [[], [(0, some 43)], [(1, some 44)], [(2, some 45)], [(2, some 45)], [(2, some 45)], [(2, some 45), (5, some 48)], [(2, some 45), (6, some 49)], [(2, some 45)], [(2, some 45), (7, some 50), (8, some 51)], [(2, some 45)], [(2, some 45)], [(2, some 45)], [(2, some 45), (11, some 54), (12, some 55)], [(2, some 45), (13, some 56)], [(2, some 45)], [(2, some 45), (3, some 46), (4, some 47), (7, some 50), (9, some 52), (10, some 53), (14, some 57), (15, some 58)], [(2, some 45), (16, some 59)], [(2, some 45), (17, some 60)]]
        [(0, some 43), (1, some 44), (2, some 45), (3, some 46), (4, some 47), (5, some 48), (6, some 49), (7, some 50), (8, some 51), (9, some 52), (10, some 53), (11, some 54), (12, some 55), (13, some 56), (14, some 57), (15, some 58), (16, some 59), (17, some 60), (18, some 61)]
        (by kernel_rfl) (by kernel_rfl) (by kernel_rfl) (by kernel_rfl) (by kernel_rfl) (by kernel_rfl) (by decide) (by decide) (fun w1 w2 h hb => ⟨h.1.keep hb, h.2.1.keep hb, h.2.2.1.keep hb, ⟨h.2.2.2.1.trans (hb.mono h.2.2.2.2), Nat.le_trans h.2.2.2.2 hb.size⟩⟩) ?_ ⟨YL.out.drew, YG.out, YP.out.drew, ⟨BB.out.1.drew, BB.out.2⟩⟩ ?_ ?_
      · intro ι w1 w2 v h hb
        match ι, h with
        | 0, h => exact h
        | 1, h => exact h
        | 2, h => exact h
        | 3, h => exact h
        | 4, h => exact h
        | 5, h => exact h
        | 6, h => exact h
        | 7, h => exact h
        | 8, h => exact h
        | 9, h => exact h
        | 10, h => exact h
        | 11, h => exact h
        | 12, h => exact h
        | 13, h => exact h
        | 14, h => exact h
        | 15, h => exact h
        | 16, h => exact h
        | 17, h => exact h
        | 18, h => exact h
        | _ + 19, h => exact h
      · refine ⟨fun γ wx hS h => ?_, fun γ wx hS h => ?_, fun γ wx hS h => ?_, fun γ wx hS h => ?_, fun γ wx hS h => ?_, fun γ wx hS h => ?_, fun γ wx hS h => ?_, fun γ wx hS h => ?_, fun γ wx hS h => ?_, fun γ wx hS h => ?_, fun γ wx hS h => ?_, fun γ wx hS h => ?_, fun γ wx hS h => ?_, fun γ wx hS h => ?_, fun γ wx hS h => ?_, fun γ wx hS h => ?_, fun γ wx hS h => ?_, fun γ wx hS h => ?_, fun γ wx hS h => ?_, trivial⟩
        · refine ⟨_, rfl, Or.inl ⟨rfl, predRun_value (v := .int .i64 0) (by simp only [putE]; first | rfl | (go_simp; done) | (go_simp; with_reducible rfl) | (go_simp; rfl)) rfl⟩⟩
        · have h0 := h
          have e0 : γ 0 = .int .i64 0 := h0
          refine ⟨_, rfl, Or.inl ⟨rfl, predRun_value (v := .bool false) (by simp only [putE, e0]; first | rfl | (go_simp; done) | (go_simp; with_reducible rfl) | (go_simp; rfl)) rfl⟩⟩
        · have h1 := h
          have e1 : γ 1 = .bool false := h1
          refine ⟨_, rfl, Or.inl ⟨rfl, predRun_value (v := .bool false) (by simp only [putE, e1]; first | rfl | (go_simp; done) | (go_simp; with_reducible rfl) | (go_simp; rfl)) rfl⟩⟩
        · have h2 := h
          have e2 : γ 2 = .bool false := h2
          refine ⟨_, rfl, Or.inl ⟨(by simp only [putE, e2]; first | kernel_rfl | rfl), predRun_value (v := .int .i64 x0) (by simp only [putE, e2]; first | rfl | (go_simp; done) | (go_simp; with_reducible rfl) | (go_simp; rfl)) rfl⟩⟩
        · have h2 := h
          have e2 : γ 2 = .bool false := h2
          refine ⟨_, rfl, Or.inl ⟨(by simp only [putE, e2]; first | kernel_rfl | rfl), predRun_value (v := .int .u32 x1) (by simp only [putE, e2]; first | rfl | (go_simp; done) | (go_simp; with_reducible rfl) | (go_simp; rfl)) rfl⟩⟩
        · have h2 := h
          have e2 : γ 2 = .bool false := h2
          refine ⟨_, rfl, Or.inl ⟨(by simp only [putE, e2]; first | kernel_rfl | rfl), predRun_value (v := .slice (some ⟨b, off, none⟩) q cap) (by simp only [putE, e2]; first | rfl | (go_simp; done) | (go_simp; with_reducible rfl) | (go_simp; rfl)) rfl⟩⟩
        · obtain ⟨h2, h5⟩ := h
          have e2 : γ 2 = .bool false := h2
          have e5 : γ 5 = .slice (some ⟨b, off, none⟩) q cap := h5
          refine ⟨_, rfl, Or.inl ⟨(by simp only [putE, e2, e5]; first | kernel_rfl | rfl), predRun_value (v := .int .i64 q) (by simp only [putE, e2, e5]; first | rfl | (go_simp; done) | (go_simp; with_reducible rfl) | (go_simp; rfl)) rfl⟩⟩
        · obtain ⟨h2, h6⟩ := h
          have e2 : γ 2 = .bool false := h2
          have e6 : γ 6 = .int .i64 q := h6
          refine ⟨_, rfl, Or.inl ⟨(by simp only [putE, e2, e6]; first | kernel_rfl | rfl), predRun_call (f := 60) (args := #[.int .i64 q]) (by simp only [putE, e2, e6]; go_simp) ?_⟩⟩
          exact (height_pow q k wx HQ.out (by omega)).mono fun e w2 ⟨h1, h2⟩ => ⟨_, h1, rfl, h2 ▸ Below.refl _ _⟩
        · have h2 := h
          have e2 : γ 2 = .bool false := h2
          refine ⟨_, rfl, Or.inl ⟨(by simp only [putE, e2]; first | kernel_rfl | rfl), predRun_value (v := .pointer (some ⟨G, 0, none⟩)) (by simp only [putE, e2]; first | rfl | (go_simp; done) | (go_simp; with_reducible rfl) | (go_simp; rfl)) rfl⟩⟩
        · obtain ⟨h2, h7, h8⟩ := h
          have e2 : γ 2 = .bool false := h2
          have e7 : γ 7 = .int .i64 k := h7
          have e8 : γ 8 = .pointer (some ⟨G, 0, none⟩) := h8
          refine ⟨_, rfl, Or.inl ⟨(by simp only [putE, e2, e7, e8]; first | kernel_rfl | rfl), predRun_call (f := 63) (args := #[.pointer (some ⟨G, 0, none⟩)]) (by simp only [putE, e2, e7, e8]; go_simp) ?_⟩⟩
          exact (rootG_any x0 x1 L k G wx HL2.out (by omega) hS.2.1).mono fun e w2 ⟨h1, h2⟩ => ⟨_, h1, congrArg dgV HRt.out, h2⟩
        · have h2 := h
          have e2 : γ 2 = .bool false := h2
          refine ⟨_, rfl, Or.inl ⟨(by simp only [putE, e2]; first | kernel_rfl | rfl), predRun_value (v := .int .i64 j) (by simp only [putE, e2]; first | rfl | (go_simp; done) | (go_simp; with_reducible rfl) | (go_simp; rfl)) rfl⟩⟩
        · have h2 := h
          have e2 : γ 2 = .bool false := h2
          refine ⟨_, rfl, Or.inl ⟨(by simp only [putE, e2]; first | kernel_rfl | rfl), predRun_value (v := .slice (some ⟨b, off, none⟩) q cap) (by simp only [putE, e2]; first | rfl | (go_simp; done) | (go_simp; with_reducible rfl) | (go_simp; rfl)) rfl⟩⟩
        · have h2 := h
          have e2 : γ 2 = .bool false := h2
          refine ⟨_, rfl, Or.inl ⟨(by simp only [putE, e2]; first | kernel_rfl | rfl), predRun_value (v := .int .i64 j) (by simp only [putE, e2]; first | rfl | (go_simp; done) | (go_simp; with_reducible rfl) | (go_simp; rfl)) rfl⟩⟩
        · obtain ⟨h2, h11, h12⟩ := h
          have e2 : γ 2 = .bool false := h2
          have e11 : γ 11 = .slice (some ⟨b, off, none⟩) q cap := h11
          have e12 : γ 12 = .int .i64 j := h12
          refine ⟨_, rfl, Or.inl ⟨(by simp only [putE, e2, e11, e12]; first | kernel_rfl | rfl), predRun_value (exec_idx65 (x := .tmp 54) (y := .tmp 55) (B := b) (o := off) (n := q) (cap := cap) (j := j) rfl (by simp only [putE, e2, e11, e12, Act.put, List.setIfInBounds_toArray, List.set_cons_zero, List.set_cons_succ]; rfl) (by simp only [putE, e2, e11, e12, Act.put, List.setIfInBounds_toArray, List.set_cons_zero, List.set_cons_succ]; rfl) rfl hjq) rfl⟩⟩
        · obtain ⟨h2, h13⟩ := h
          have e2 : γ 2 = .bool false := h2
          have e13 : γ 13 = .pointer (some ⟨b, off + j * 16, none⟩) := h13
          refine ⟨_, rfl, Or.inl ⟨(by simp only [putE, e2, e13]; first | kernel_rfl | rfl), predRun_value (exec_load_midS (b := b) (off := off + j * 16) (x := .tmp 56) (cs := kv .u8 s) rfl (by simp only [putE, e2, e13, Act.put, List.setIfInBounds_toArray, List.set_cons_zero, List.set_cons_succ]; rfl) (by rw [HSe.out]; exact hS.1.rangeOf hjq) Tryd.underlying32 rfl (cellsL32 HSl.out)) rfl⟩⟩
        · have h2 := h
          have e2 : γ 2 = .bool false := h2
          refine ⟨_, rfl, Or.inl ⟨(by simp only [putE, e2]; first | kernel_rfl | rfl), predRun_value (v := .slice a9 k c9) (by simp only [putE, e2]; first | rfl | (go_simp; done) | (go_simp; with_reducible rfl) | (go_simp; rfl)) rfl⟩⟩
        · obtain ⟨h2, h3, h4, h7, h9, h10, h14, h15⟩ := h
          have e2 : γ 2 = .bool false := h2
          have e3 : γ 3 = .int .i64 x0 := h3
          have e4 : γ 4 = .int .u32 x1 := h4
          have e7 : γ 7 = .int .i64 k := h7
          have e9 : γ 9 = dgV root := h9
          have e10 : γ 10 = .int .i64 j := h10
          have e14 : γ 14 = dgV s := h14
          have e15 : γ 15 = .slice a9 k c9 := h15
          refine ⟨_, rfl, Or.inl ⟨(by simp only [putE, e2, e3, e4, e7, e9, e10, e14, e15]; first | kernel_rfl | rfl), predRun_call (f := 72) (args := #[.int .i64 x0, .int .u32 x1, .int .i64 k, dgV root, .int .i64 j, dgV s, .slice a9 k c9]) (by simp only [putE, e2, e3, e4, e7, e9, e10, e14, e15]; go_simp) ?_⟩⟩
          exact (check_any x0 x1 k j root s a9 k c9 Pw wx (HK.out.keep (by rw [← HA.out]; exact hS.2.2.2.1)) HE.out HRl.out.1 HRl.out.2 HSl.out HSb.out hS.2.2.1).mono fun e w2 ⟨h1, h2⟩ => ⟨_, h1, by show Value.bool _ = Value.bool true; rw [← HRt.out, HPw.out, HSe.out, checkB_own HL2.out (by omega) HJ.out], h2⟩
        · obtain ⟨h2, h16⟩ := h
          have e2 : γ 2 = .bool false := h2
          have e16 : γ 16 = .bool true := h16
          refine ⟨_, rfl, Or.inl ⟨(by simp only [putE, e2, e16]; first | kernel_rfl | rfl), predRun_value (v := .bool false) (by simp only [putE, e2, e16]; first | rfl | (go_simp; done) | (go_simp; with_reducible rfl) | (go_simp; rfl)) rfl⟩⟩
        · obtain ⟨h2, h17⟩ := h
          have e2 : γ 2 = .bool false := h2
          have e17 : γ 17 = .bool false := h17
          refine ⟨_, rfl, Or.inl ⟨rfl, predRun_value (v := .bool false) (by simp only [putE, e2, e17]; first | rfl | (go_simp; done) | (go_simp; with_reducible rfl) | (go_simp; rfl)) rfl⟩⟩
      · intro γ w9 hS h
        have e18 : γ 18 = .bool false := h.2.2.2.2.2.2.2.2.2.2.2.2.2.2.2.2.2.2
        have EL := Kp.mk hS.1
        have EG := Kp.mk hS.2.1
        have EB := Kp.mk hS.2.2.2
        simp only [putE, Act.put, List.setIfInBounds_toArray, List.set_cons_zero, List.set_cons_succ]
        rw [e18]
        clear h hS e18 YL YG YP BB
        refine wpOps_done ?_
        go_wp2_with fail
        exact ⟨⟨j + 1, by omega, by go_num, EL, EG, EB⟩, by simp [intOf]; omega⟩
    · have hge : ¬ (j : Int) < (q : Int) := by omega
      go_wp2_with fail
      go_ret
      exact ⟨rfl, by rw [← HA.out]; exact BB0.out.1⟩
end Go.Proofs.YtahmioiefmheeaaDoor

namespace Go.Proofs.YtahmioiefmheeaaDoor
open Go.ChangeShapes Go.WideShapes Go.ChangeAt Go.RowKit

abbrev laidL : List (String × DataW Unit) := Rows.shaHexesRow.laid
theorem gKon : Tryd.prog.globalNamed ((Rows.shaHexesRow.laid.map (·.1)).headD default) = some 0 := by kernel_rfl
theorem tKon : (Tryd.prog.globals[0]?).map (·.type) = some 153 := by kernel_rfl
set_option maxRecDepth 100000 in
theorem laid_kon : (Rows.laid_fingerpost_sha_constants : DataW Unit) = .agg (kon.map fun k => .lit (.int .u32 k)) := rfl
set_option maxRecDepth 100000 in
theorem door_met (os : Os) (args : Array Value) : laidMetH Tryd.prog laidL ((World.doorLaid Tryd.prog 400 os).forCall (fun _ _ => 0) ⟨#[], args, []⟩).memory :=
  laidMetH_of_parts3 (fuel := 8) (laidMet_of_run' 8 (by kernel_rfl) (by kernel_rfl)) (by kernel_rfl) (by kernel_rfl)
theorem kon_of_laid {W : World} (h : laidMetH Tryd.prog laidL W) : KonIs W := by
  rw [MakeChecks.laidMetH_plain _ _ _ (by kernel_rfl)] at h
  obtain ⟨ps, ⟨g0, t0, cs0, f0, p0, q0, hg0, ht0, hv0, hd0, _, _⟩, _⟩ := h
  obtain rfl := Option.some.inj (gKon.symm.trans hg0)
  obtain rfl := Option.some.inj (tKon.symm.trans ht0)
  obtain ⟨xs, m, rfl, hx, hlen, hn, hel⟩ := DataW.trod_array Tryd.underlying153 hd0
  have c67 : Tryd.prog.cellsOf 46 = 1 := by kernel_rfl
  simp only [Prod.mk.injEq] at hx
  have hx1 := hx.1
  rw [laid_kon] at hx1
  simp only [DataW.agg.injEq] at hx1
  intro i hi
  have he := hel i hi
  rw [c67, Nat.mul_one] at he
  have hix : i < xs.length := by omega
  rw [List.getElem?_eq_getElem hix] at he
  obtain ⟨k, e1, e2, _⟩ := DataW.trod_int Tryd.underlying46 he
  have hk : (xs.map (·.1))[i]? = some (DataW.lit (.int .u32 k)) := by
    rw [List.getElem?_map, List.getElem?_eq_getElem hix]
    exact congrArg some (congrArg Prod.fst e2)
  rw [← hx1, List.getElem?_map, List.getElem?_eq_getElem (by rw [kon_len]; exact hi)] at hk
  simp at hk
  rw [World.var?_cell hg0 hv0 i]
  have h3 : cs0.toList[i]? = some (.int .u32 k) := by
    have h4 := congrArg (fun l : List Value => l[0]?) e1
    simp only [List.getElem?_take, List.getElem?_drop, Nat.lt_one_iff, if_true, Nat.add_zero] at h4
    simpa using h4
  rw [Array.getElem?_toList] at h3
  rw [h3, ← hk, List.getD_eq_getElem?_getD, List.getElem?_eq_getElem (by rw [kon_len]; exact hi)]
  rfl
end Go.Proofs.YtahmioiefmheeaaDoor
