/-
  turn.
-/
import Derived.Test.YtfpmmbbbndobiaaRbC
namespace Go.Proofs.Ytfpmmbbbndobiaa
open Go.RowKit

theorem off_range {T : TB} {w : World} {t d n : Nat} (h : Blk w t T.obj) (hd : d < 8) (hn : n < 8) : w.rangeAt t (3 + d * 216 + n * 27) (owc (T.off (d * 8 + n))) := fun j v hv => by
  have hj : j < 27 := (List.getElem?_eq_some_iff.1 hv).1
  rw [h.cell (3 + d * 216 + n * 27 + j), List.getElem?_toArray, show 3 + d * 216 + n * 27 + j = 3 + (d * 8 + n) * 27 + j by omega, tc_off T (by omega) hj]
  exact hv
abbrev rowO (T : TB) (d : Nat) : List Value := cat (fun j => owc (T.off (d * 8 + j))) 8
theorem rowO_len (T : TB) (d : Nat) : (rowO T d).length = 216 := by rw [cat_len (L := 27) (fun _ => owc_len _)]
theorem row_range {T : TB} {w : World} {t d : Nat} (h : Blk w t T.obj) (hd : d < 8) : w.rangeAt t (3 + d * 216) (rowO T d) := fun x v hv => by
  have hx : x < 216 := by have := (List.getElem?_eq_some_iff.1 hv).1; rwa [rowO_len] at this
  have hr : x % 27 < 27 := Nat.mod_lt _ (by omega)
  rw [h.cell (3 + d * 216 + x), List.getElem?_toArray, show 3 + d * 216 + x = 3 + (d * 8 + x / 27) * 27 + x % 27 by omega, tc_off T (by omega) hr]
  have e := cat_at (f := fun j => owc (T.off (d * 8 + j))) (L := 27) (fun _ => owc_len _) (n := 8) (i := x / 27) (k := x % 27) (by omega) hr
  rw [show x / 27 * 27 + x % 27 = x by omega] at e
  rw [← hv, e]
theorem index102 (g : Nat → OW) {i : Nat} (hi : i < 8) (w : World) : (Instr.index 102 (.agg (cat (fun j => owc (g j)) 8).toArray) (.int .i64 i)).run Try.prog w = .ok (.agg (owc (g i)).toArray) w := by
  have h : i = 0 ∨ i = 1 ∨ i = 2 ∨ i = 3 ∨ i = 4 ∨ i = 5 ∨ i = 6 ∨ i = 7 := by omega
  clear hi
  rcases h with rfl | rfl | rfl | rfl | rfl | rfl | rfl | rfl
  all_goals (show _ = _; kernel_rfl)
/-- By whom a route goes, behind i of the neighbours. -/
def turnUp (T : TB) (d : Nat) : Nat → Nat
  | 0 => (T.way d).toNat
  | i + 1 => if beB (T.off (d * 8 + i)) (T.off (d * 8 + turnUp T d i)) = true then i else turnUp T d i
theorem turnUp_lt {T : TB} {d : Nat} (h : (T.way d).toNat < 8) : ∀ {i : Nat}, i ≤ 8 → turnUp T d i < 8
  | 0, _ => h
  | i + 1, hi => by
    unfold turnUp
    split
    · omega
    · exact turnUp_lt h (by omega)
set_option maxRecDepth 100000 in
set_option maxHeartbeats 3200000 in
theorem turn_any (T : TB) (t d : Nat) (w : World) (h : Blk w t T.obj) (hd : d < 8) (hw : 0 ≤ T.way d ∧ T.way d < 8) : Calls Try.prog 45 #[.pointer (some ⟨t, 0, none⟩), .int .i64 d] w fun r w' => r = .returned (.tuple #[]) ∧ Turn t (T.putW d (turnUp T d 8)).obj w w' := by
  have HB := Kp.mk h
  have HD := Kp.mk hd
  have HW : Kp ((T.way d).toNat < 8) := ⟨by omega⟩
  have hd0 : (d : Int) < 8 := by omega
  have c0 : w.cell? ⟨t, 1731 + d, none⟩ = some (.int .i64 (turnUp T d 0 : Nat)) := (h.cell _).trans (by rw [List.getElem?_toArray, tc_way T hd]; unfold turnUp; congr 2; omega)
  have HRR : Kp (w.rangeAt t (3 + d * 216) (rowO T d)) := ⟨row_range h hd⟩
  have HT0 : Kp (Turn t T.obj w w) := ⟨Turn.same h⟩
  clear h hd hw
  obtain ⟨X, hX⟩ : ∃ X, X = turnUp T d 8 := ⟨_, rfl⟩
  rw [← hX]
  have HX8 := Kp.mk hX
  clear hX
  go_enter Try.func45, Try.ntmps45
  go_wp2_with (refine wpList_load_mid rfl 102 (.tmp 17) rfl t (3 + d * 216) rfl (rowO T d) _ HRR.out Try.underlying102 rfl (by rw [rowO_len]; kernel_rfl) ?_)
  clear c0
  go_loopw [4, 19] (fun wy ct wr => ∃ i : Nat, i ≤ 8 ∧ ct = .int .i64 i ∧ wy = .int .i64 (turnUp T d i : Nat) ∧ Kp (Turn t T.obj w wr)) (fun _ ct _ => 8 - (intOf ct).toNat)
  case atStart => exact ⟨0, by omega, rfl, rfl, HT0⟩
  case round =>
    obtain ⟨i, hi8, rfl, rfl, T0⟩ := hrel
    have HL := Kp.mk (turnUp_lt HW.out hi8)
    by_cases hlt : i < 8
    · have hix := index102 (fun j => T.off (d * 8 + j)) hlt
      have HU : Kp (turnUp T d (i + 1) = if beB (T.off (d * 8 + i)) (T.off (d * 8 + turnUp T d i)) = true then i else turnUp T d i) := ⟨rfl⟩
      have hu8 : (turnUp T d i : Int) < 8 := by have := HL.out; omega
      obtain ⟨u, hu⟩ : ∃ u, u = turnUp T d i := ⟨_, rfl⟩
      have HUE := Kp.mk hu
      rw [← hu] at HL HU hu8 ⊢
      clear hu
      obtain ⟨a, ha⟩ : ∃ a, a = T.off (d * 8 + i) := ⟨_, rfl⟩
      have HA := Kp.mk ha
      rw [← ha] at hix HU
      clear ha
      go_upto_region 4 with (first
        | (refine wpList_store_row rfl 101 (.tmp 6) (.tmp 22) rfl wr.heap.size (owc a).toArray rfl rfl 101 _ (Blk.newAt _ rfl) (info101s a) rfl (all_oneCell_toArray (owc_one a)) ?_
           rw [World.setRow_alloc_new]
           refine wpl_world (fun W => Blk W wr.heap.size a.obj ∧ Turn t T.obj w W) ⟨Blk.new _ _, T0.out.alloc _⟩ ?_
           intro W1 hW1
           have K1 := Kp.mk hW1
           clear hW1))
      clear hix
      have HC := fun wx => better_any a (T.off (d * 8 + u)) wx
      refine wp_region_flow (fun w' => Blk w' wr.heap.size a.obj ∧ Turn t T.obj w w') (by kernel_rfl) (by kernel_rfl) (by kernel_rfl)
        (fun _ _ h hb => ⟨h.1.keep hb, h.2.more hb⟩) (⟨K1.out.1.draw, K1.out.2.drew⟩) ?_
      repeat (first
        | (apply Flow.value
           · rfl
           · (intro wx hS; exact exec_load_mid (cs := owc a) rfl rfl (hS.1.range (o := 0) rfl) Try.underlying101 rfl (by kernel_rfl))
           try simp only [Act.put, List.setIfInBounds_toArray, List.set_cons_zero, List.set_cons_succ])
        | (apply Flow.value
           · rfl
           · (intro wx hS; exact exec_load_mid (cs := owc (T.off (d * 8 + u))) rfl rfl (off_range hS.2.blk HD.out HL.out) Try.underlying101 rfl (by kernel_rfl))
           try simp only [Act.put, List.setIfInBounds_toArray, List.set_cons_zero, List.set_cons_succ])
        | (apply Flow.call
           · rfl
           · intro wx hS; go_simp; constructor <;> with_reducible rfl
           · intro wx hS; exact HC wx
           try simp only [Act.put, List.setIfInBounds_toArray, List.set_cons_zero, List.set_cons_succ])
        | (apply Flow.value
           · rfl
           · (intro wx hS; skip; go_simp; with_reducible rfl)
           try simp only [Act.put, List.setIfInBounds_toArray, List.set_cons_zero, List.set_cons_succ]))
      refine Flow.done ?_
      intro w3 hS
      have K3 := Kp.mk hS
      clear hS HC
      cases hbe : beB a (T.off (d * 8 + u)) with
      | true =>
        have HX : Kp (turnUp T d (i + 1) = i) := ⟨by rw [HU.out, if_pos hbe]⟩
        clear hbe
        go_wp2_with fail
        exact ⟨⟨i + 1, by omega, by go_num, by rw [HX.out], ⟨K3.out.2⟩⟩, by simp [intOf]; omega⟩
      | false =>
        have HX : Kp (turnUp T d (i + 1) = u) := ⟨by rw [HU.out, if_neg (by simp [hbe])]⟩
        clear hbe
        go_wp2_with fail
        exact ⟨⟨i + 1, by omega, by go_num, by rw [HX.out], ⟨K3.out.2⟩⟩, by simp [intOf]; omega⟩
    · have hi : i = 8 := by omega
      have HXi : Kp (X = turnUp T d i) := ⟨by rw [HX8.out, hi]⟩
      have c0 : wr.cell? ⟨t, 1731 + d, none⟩ = some (.int .i64 (T.way d)) := (T0.out.blk.cell _).trans (by rw [List.getElem?_toArray, tc_way T HD.out])
      have f0 := T0.out.blk.frozen (1731 + d)
      have HF : Kp (Turn t (T.putW d X).obj w (wr.setCell ⟨t, 1731 + d, none⟩ (.int .i64 X))) := ⟨by
        have := T0.out.set (1731 + d) (.int .i64 X)
        rw [List.setIfInBounds_toArray, tc_setW T HD.out] at this
        exact this⟩
      rw [← HXi.out]
      have hnlt : ¬ (i : Int) < 8 := by omega
      clear hi hlt HL
      go_wp2_with fail
      exact bodyPost_end (v := .tuple #[]) (by simp [results, Try.results45, go_sem]) rfl ⟨rfl, HF.out⟩
end Go.Proofs.Ytfpmmbbbndobiaa
