/-
  mac.Pick.
  append of bytes to an empty row: the run itself. Whether two rows of bytes, as arrays or as texts, are one.
  Rows of short sums: From, To, SameSums.
-/
import Derived.Test.YtahmioiefmheeaaDoorLs11
import Derived.ArgAppend
import Derived.Stop.BytesEq
import Derived.Deep.WholeRow
import Derived.Lib.Hide
namespace Go.Proofs.YtahmioiefmheeaaDoor
open Go.RowKit

/-- What stands behind so many rounds. -/
def pk (t x : List Int) (i : Nat) : List Int := t.take i ++ x.drop i
theorem pk_len (t x : List Int) (i : Nat) (ht : t.length = 16) (hx : x.length = 16) (h : i ≤ 16) : (pk t x i).length = 16 := by simp [pk]; omega
theorem pk_zero (t x : List Int) : pk t x 0 = x := by simp [pk]
theorem pk_full (t x : List Int) (ht : t.length = 16) (hx : x.length = 16) : pk t x 16 = t := by
  unfold pk
  rw [List.take_of_length_le (by omega), List.drop_of_length_le (by omega), List.append_nil]
theorem pk_get (t x : List Int) (i : Nat) (ht : t.length = 16) (hx : x.length = 16) (h : i < 16) : (pk t x i).getD i 0 = x.getD i 0 := by
  unfold pk
  rw [List.getD_eq_getElem?_getD, List.getD_eq_getElem?_getD, List.getElem?_append_right (by rw [List.length_take]; omega), List.length_take, List.getElem?_drop]
  congr 2
  omega
theorem pk_set (t x : List Int) (i : Nat) (ht : t.length = 16) (hx : x.length = 16) (h : i < 16) : (pk t x i).set i (t.getD i 0) = pk t x (i + 1) := by
  unfold pk
  have e : (t.take i).length = i := by rw [List.length_take]; omega
  rw [List.set_append_right _ _ (by omega), e, Nat.sub_self, take_succ_get (by omega), List.append_assoc, List.drop_eq_getElem_cons (i := i) (by omega), List.set_cons_zero]
  rfl
set_option maxRecDepth 100000 in
set_option maxHeartbeats 1000000 in
theorem pick_true (x y : List Int) (w : World) (hx : x.length = 16) (hxb : Bytes x) (hy : y.length = 16) (hyb : Bytes y) :
    Calls Tryd.prog 30 #[.bool true, dgV x, dgV y] w fun r w' => r = .returned (dgV y) ∧ Below w.heap.size w w' := by
  have HX := Kp.mk hx
  have HXB := Kp.mk hxb
  have HY := Kp.mk hy
  have HYB := Kp.mk hyb
  have HT := Kp.mk (show (y).length = 16 from by assumption)
  clear hx hxb hy hyb
  go_enter Tryd.func30, Tryd.ntmps30
  go_wp2_with fail
  obtain ⟨A, hA⟩ : ∃ A, A = w.heap.size := ⟨_, rfl⟩
  have HA := Kp.mk hA
  rw [← hA]
  refine calls_world (fun W => Row W A 33 .u8 (pk y x 0) ∧ Row W (A + 1) 33 .u8 y ∧ Row W (A + 2) 33 .u8 (fill 16 []) ∧ Below A w W) ⟨by rw [pk_zero]; exact Blk.old (Blk.old (Blk.newAt _ hA) _) _, Blk.old (Blk.newAt _ (by simp [hA])) _, Blk.newAt _ (by simp [hA]), by rw [hA]; exact more (more (more (Below.refl _ _) _) _) _⟩ ?_
  rw [show A + 1 + 1 = A + 2 from rfl]
  clear hA
  rintro W ⟨h1, h2, h3, h4⟩
  refine (number_any true W).mono ?_
  rintro r w1 ⟨rfl, rfl⟩
  have G1 := Kp.mk h1
  have G2 := Kp.mk h2
  have G3 := Kp.mk h3
  have G4 := Kp.mk h4
  clear h1 h2 h3 h4
  go_wp2_with fail
  rw [show (-1 : Int) % 256 = 255 from rfl]
  go_loopw [12] (fun c wr => ∃ i : Nat, i ≤ 16 ∧ c = .int .i64 i ∧ Row wr A 33 .u8 (pk y x i) ∧ Row wr (A + 1) 33 .u8 y ∧ Row wr (A + 2) 33 .u8 (fill 16 []) ∧ Below A w wr) (fun c _ => 16 - (intOf c).toNat)
  case atStart => exact ⟨0, by omega, rfl, G1.out, G2.out, G3.out, G4.out⟩
  case round =>
    obtain ⟨i, hi, rfl, h1, h2, h3, h4⟩ := hrel
    clear G1 G2 G3 G4
    have G1 := Kp.mk h1
    have G2 := Kp.mk h2
    have G3 := Kp.mk h3
    have G4 := Kp.mk h4
    clear h1 h2 h3 h4
    by_cases hlt : i < 16
    · have HI := Kp.mk hlt
      have HG := Kp.mk (pk_get y x i HT.out HX.out hlt)
      have HS := Kp.mk (pk_set y x i HT.out HX.out hlt)
      have HP := Kp.mk (pick8 true (x.getD i 0) (y.getD i 0) (HXB.out.at (by rw [HX.out]; exact hlt)) (HYB.out.at (by rw [HY.out]; exact hlt)))
      have HL : Kp ((pk y x i).length = 16) := ⟨pk_len y x i HT.out HX.out (by omega)⟩
      have hz : (i : Int) < 16 := by omega
      go_wp2_with fail
      refine wp_region_pred (fun w' => Row w' A 33 .u8 (pk y x i) ∧ Row w' (A + 1) 33 .u8 y ∧ Row w' (A + 2) 33 .u8 (fill 16 []) ∧ Below A w w') [0, 1, 2, 3, 4, 5, 6, 7, 8, 9, 10, 11, 12] [13, 14]
        (fun j _ v => match j with
          | 0 => v = .int .i64 i
          | 1 => v = .pointer (some ⟨A, i, none⟩)
          | 2 => v = .int .u8 (x.getD i 0)
          | 3 => v = .int .u8 255
          | 4 => v = .int .i64 i
          | 5 => v = .pointer (some ⟨A, i, none⟩)
          | 6 => v = .int .u8 (x.getD i 0)
          | 7 => v = .int .i64 i
          | 8 => v = .pointer (some ⟨A + 1, i, none⟩)
          | 9 => v = .int .u8 (y.getD i 0)
          | 10 => v = .int .u8 (bits .xor .u8 (x.getD i 0) (y.getD i 0))
          | 11 => v = .int .u8 (bits .and .u8 255 (bits .xor .u8 (x.getD i 0) (y.getD i 0)))
          | _ => v = .int .u8 (bits .xor .u8 (x.getD i 0) (bits .and .u8 255 (bits .xor .u8 (x.getD i 0) (y.getD i 0)))))
        [[], [(0, some 15)], [(1, some 16)], [], [], [(4, some 19)], [(5, some 20)], [], [(7, some 22)], [(8, some 23)], [(6, some 21), (9, some 24)], [(3, some 18), (10, some 25)], [(2, some 17), (11, some 26)]]
        [(0, some 15), (1, some 16), (2, some 17), (3, some 18), (4, some 19), (5, some 20), (6, some 21), (7, some 22), (8, some 23), (9, some 24), (10, some 25), (11, some 26), (12, some 27)]
        (by kernel_rfl) (by kernel_rfl) (by kernel_rfl) (by kernel_rfl) (by kernel_rfl) (by kernel_rfl) (by decide) (by decide) (fun w1 w2 h hb => ⟨h.1.keep hb, h.2.1.keep hb, h.2.2.1.keep hb, h.2.2.2.trans (hb.mono (Nat.le_of_lt h.1.lt))⟩) (fun _ _ _ _ h _ => h) ⟨G1.out.drew, G2.out.drew, G3.out.drew, G4.out.drew⟩ ?_ ?_
      · refine ⟨fun γ wx hS h => ⟨_, rfl, Or.inl ⟨rfl, ?_⟩⟩, fun γ wx hS h => ⟨_, rfl, Or.inl ⟨rfl, ?_⟩⟩, fun γ wx hS h => ⟨_, rfl, Or.inl ⟨rfl, ?_⟩⟩, fun γ wx hS h => ⟨_, rfl, Or.inl ⟨rfl, ?_⟩⟩, fun γ wx hS h => ⟨_, rfl, Or.inl ⟨rfl, ?_⟩⟩, fun γ wx hS h => ⟨_, rfl, Or.inl ⟨rfl, ?_⟩⟩, fun γ wx hS h => ⟨_, rfl, Or.inl ⟨rfl, ?_⟩⟩, fun γ wx hS h => ⟨_, rfl, Or.inl ⟨rfl, ?_⟩⟩, fun γ wx hS h => ⟨_, rfl, Or.inl ⟨rfl, ?_⟩⟩, fun γ wx hS h => ⟨_, rfl, Or.inl ⟨rfl, ?_⟩⟩, fun γ wx hS h => ⟨_, rfl, Or.inl ⟨rfl, ?_⟩⟩, fun γ wx hS h => ⟨_, rfl, Or.inl ⟨rfl, ?_⟩⟩, fun γ wx hS h => ⟨_, rfl, Or.inl ⟨rfl, ?_⟩⟩, trivial⟩
        · exact predRun_value rfl rfl
        · have e0 : γ 0 = .int .i64 i := h
          exact predRun_value (v := .pointer (some ⟨A, i, none⟩)) (by simp only [putE, e0]; go_simp) rfl
        · have e1 : γ 1 = .pointer (some ⟨A, i, none⟩) := h
          have c := hS.1.cell (i := i) (by rw [HL.out]; exact hlt)
          rw [HG.out] at c
          exact predRun_value (v := .int .u8 (x.getD i 0)) (by simp only [putE, e1]; go_simp) rfl
        · exact predRun_value rfl rfl
        · exact predRun_value rfl rfl
        · have e0 : γ 4 = .int .i64 i := h
          exact predRun_value (v := .pointer (some ⟨A, i, none⟩)) (by simp only [putE, e0]; go_simp) rfl
        · have e1 : γ 5 = .pointer (some ⟨A, i, none⟩) := h
          have c := hS.1.cell (i := i) (by rw [HL.out]; exact hlt)
          rw [HG.out] at c
          exact predRun_value (v := .int .u8 (x.getD i 0)) (by simp only [putE, e1]; go_simp) rfl
        · exact predRun_value rfl rfl
        · have e0 : γ 7 = .int .i64 i := h
          exact predRun_value (v := .pointer (some ⟨A + 1, i, none⟩)) (by simp only [putE, e0]; go_simp) rfl
        · have e1 : γ 8 = .pointer (some ⟨A + 1, i, none⟩) := h
          have c := hS.2.1.cell (i := i) (by rw [HY.out]; exact hlt)
          exact predRun_value (v := .int .u8 (y.getD i 0)) (by simp only [putE, e1]; go_simp) rfl
        · obtain ⟨h6, h9⟩ := h
          have e6 : γ 6 = .int .u8 (x.getD i 0) := h6
          have e9 : γ 9 = .int .u8 (y.getD i 0) := h9
          exact predRun_value (v := .int .u8 (bits .xor .u8 (x.getD i 0) (y.getD i 0))) (by simp only [putE, e6, e9]; generalize x.getD i 0 = a; generalize y.getD i 0 = b; go_simp) rfl
        · obtain ⟨h3, h10⟩ := h
          have e3 : γ 3 = .int .u8 255 := h3
          have e10 : γ 10 = .int .u8 (bits .xor .u8 (x.getD i 0) (y.getD i 0)) := h10
          exact predRun_value (v := .int .u8 (bits .and .u8 255 (bits .xor .u8 (x.getD i 0) (y.getD i 0)))) (by simp only [putE, e3, e10]; generalize bits .xor .u8 (x.getD i 0) (y.getD i 0) = b; go_simp) rfl
        · obtain ⟨h2, h11⟩ := h
          have e2 : γ 2 = .int .u8 (x.getD i 0) := h2
          have e11 : γ 11 = .int .u8 (bits .and .u8 255 (bits .xor .u8 (x.getD i 0) (y.getD i 0))) := h11
          exact predRun_value (v := .int .u8 (bits .xor .u8 (x.getD i 0) (bits .and .u8 255 (bits .xor .u8 (x.getD i 0) (y.getD i 0))))) (by simp only [putE, e2, e11]; generalize bits .and .u8 255 (bits .xor .u8 (x.getD i 0) (y.getD i 0)) = b; generalize x.getD i 0 = a; go_simp) rfl
      · intro γ w9 hS h
        have e12 : γ 12 = .int .u8 (bits .xor .u8 (x.getD i 0) (bits .and .u8 255 (bits .xor .u8 (x.getD i 0) (y.getD i 0)))) := h.2.2.2.2.2.2.2.2.2.2.2.2
        have e0 : γ 0 = .int .i64 i := h.1
        have HQ := Kp.mk (show bits .xor .u8 (x.getD i 0) (bits .and .u8 255 (bits .xor .u8 (x.getD i 0) (y.getD i 0))) = (y).getD i 0 from HP.out)
        rw [HQ.out] at e12
        have cw := hS.1.cell (i := i) (by rw [HL.out]; exact hlt)
        have fw := hS.1.frozen i
        have F1 := Kp.mk (hS.1.set i ((y).getD i 0))
        have F2 := Kp.mk (hS.2.1.other (p := ⟨A, i, none⟩) (by show A ≠ A + 1; omega) (.int .u8 ((y).getD i 0)))
        have F3 := Kp.mk (hS.2.2.1.other (p := ⟨A, i, none⟩) (by show A ≠ A + 2; omega) (.int .u8 ((y).getD i 0)))
        have F4 := Kp.mk (hS.2.2.2.setCell (p := ⟨A, i, none⟩) (by exact Nat.le_refl _) (.int .u8 ((y).getD i 0)))
        rw [HS.out] at F1
        simp only [putE, Act.put, List.setIfInBounds_toArray, List.set_cons_zero, List.set_cons_succ]
        rw [e12, e0]
        clear h hS e12 e0 HQ
        generalize (y).getD i 0 = t at *
        refine wpOps_step rfl rfl ?_
        go_simp
        refine wpOps_step rfl rfl ?_
        go_simp
        refine wpOps_done ?_
        clear cw fw
        generalize w9.setCell ⟨A, i, none⟩ (.int .u8 t) = w8 at *
        go_wp2_with fail
        exact ⟨⟨i + 1, by omega, by go_num, F1.out, F2.out, F3.out, F4.out⟩, by simp [intOf]; omega⟩
    · have HI : Kp (i = 16) := ⟨by omega⟩
      have hge : 16 ≤ (i : Int) := by omega
      have G5 : Kp (Row wr A 33 .u8 y) := ⟨by have h := G1.out; rw [HI.out, pk_full _ _ HT.out HX.out] at h; exact h⟩
      have HC := Kp.mk (cells50 HT.out)
      have HZ := Kp.mk (size50 HT.out)
      have HF := Kp.mk (G3.out.setRow y)
      have HBf := Kp.mk (Below.row G4.out (g := A + 2) (by omega) (kv .u8 y).toArray)
      clear hlt hi G1
      go_wp2_with (first
        | (refine wpList_load_row rfl 33 (.tmp 4) rfl A rfl 33 (kv .u8 y).toArray (0, 0) _ G5.out Tryd.underlying33 rfl HC.out ?_)
        | (refine wpList_store_row rfl 33 (.tmp 6) (.tmp 30) rfl (A + 2) (kv .u8 y).toArray rfl rfl 33 _ G3.out HC.out HZ.out (kv_all _ _) ?_))
      refine bodyPost_ret (v := dgV y) ?_ rfl ⟨rfl, by rw [← HA.out]; exact HBf.out⟩
      exact results_cell_row rfl _ _ (A + 2) 33 _ (0, 0) _ rfl HF.out Tryd.underlying33 rfl HC.out
set_option maxRecDepth 100000 in
set_option maxHeartbeats 1000000 in
theorem pick_false (x y : List Int) (w : World) (hx : x.length = 16) (hxb : Bytes x) (hy : y.length = 16) (hyb : Bytes y) :
    Calls Tryd.prog 30 #[.bool false, dgV x, dgV y] w fun r w' => r = .returned (dgV x) ∧ Below w.heap.size w w' := by
  have HX := Kp.mk hx
  have HXB := Kp.mk hxb
  have HY := Kp.mk hy
  have HYB := Kp.mk hyb
  have HT := Kp.mk (show (x).length = 16 from by assumption)
  clear hx hxb hy hyb
  go_enter Tryd.func30, Tryd.ntmps30
  go_wp2_with fail
  obtain ⟨A, hA⟩ : ∃ A, A = w.heap.size := ⟨_, rfl⟩
  have HA := Kp.mk hA
  rw [← hA]
  refine calls_world (fun W => Row W A 33 .u8 (pk x x 0) ∧ Row W (A + 1) 33 .u8 y ∧ Row W (A + 2) 33 .u8 (fill 16 []) ∧ Below A w W) ⟨by rw [pk_zero]; exact Blk.old (Blk.old (Blk.newAt _ hA) _) _, Blk.old (Blk.newAt _ (by simp [hA])) _, Blk.newAt _ (by simp [hA]), by rw [hA]; exact more (more (more (Below.refl _ _) _) _) _⟩ ?_
  rw [show A + 1 + 1 = A + 2 from rfl]
  clear hA
  rintro W ⟨h1, h2, h3, h4⟩
  refine (number_any false W).mono ?_
  rintro r w1 ⟨rfl, rfl⟩
  have G1 := Kp.mk h1
  have G2 := Kp.mk h2
  have G3 := Kp.mk h3
  have G4 := Kp.mk h4
  clear h1 h2 h3 h4
  go_wp2_with fail
  go_loopw [12] (fun c wr => ∃ i : Nat, i ≤ 16 ∧ c = .int .i64 i ∧ Row wr A 33 .u8 (pk x x i) ∧ Row wr (A + 1) 33 .u8 y ∧ Row wr (A + 2) 33 .u8 (fill 16 []) ∧ Below A w wr) (fun c _ => 16 - (intOf c).toNat)
  case atStart => exact ⟨0, by omega, rfl, G1.out, G2.out, G3.out, G4.out⟩
  case round =>
    obtain ⟨i, hi, rfl, h1, h2, h3, h4⟩ := hrel
    clear G1 G2 G3 G4
    have G1 := Kp.mk h1
    have G2 := Kp.mk h2
    have G3 := Kp.mk h3
    have G4 := Kp.mk h4
    clear h1 h2 h3 h4
    by_cases hlt : i < 16
    · have HI := Kp.mk hlt
      have HG := Kp.mk (pk_get x x i HT.out HX.out hlt)
      have HS := Kp.mk (pk_set x x i HT.out HX.out hlt)
      have HP := Kp.mk (pick8 false (x.getD i 0) (y.getD i 0) (HXB.out.at (by rw [HX.out]; exact hlt)) (HYB.out.at (by rw [HY.out]; exact hlt)))
      have HL : Kp ((pk x x i).length = 16) := ⟨pk_len x x i HT.out HX.out (by omega)⟩
      have hz : (i : Int) < 16 := by omega
      go_wp2_with fail
      refine wp_region_pred (fun w' => Row w' A 33 .u8 (pk x x i) ∧ Row w' (A + 1) 33 .u8 y ∧ Row w' (A + 2) 33 .u8 (fill 16 []) ∧ Below A w w') [0, 1, 2, 3, 4, 5, 6, 7, 8, 9, 10, 11, 12] [13, 14]
        (fun j _ v => match j with
          | 0 => v = .int .i64 i
          | 1 => v = .pointer (some ⟨A, i, none⟩)
          | 2 => v = .int .u8 (x.getD i 0)
          | 3 => v = .int .u8 0
          | 4 => v = .int .i64 i
          | 5 => v = .pointer (some ⟨A, i, none⟩)
          | 6 => v = .int .u8 (x.getD i 0)
          | 7 => v = .int .i64 i
          | 8 => v = .pointer (some ⟨A + 1, i, none⟩)
          | 9 => v = .int .u8 (y.getD i 0)
          | 10 => v = .int .u8 (bits .xor .u8 (x.getD i 0) (y.getD i 0))
          | 11 => v = .int .u8 (bits .and .u8 0 (bits .xor .u8 (x.getD i 0) (y.getD i 0)))
          | _ => v = .int .u8 (bits .xor .u8 (x.getD i 0) (bits .and .u8 0 (bits .xor .u8 (x.getD i 0) (y.getD i 0)))))
        [[], [(0, some 15)], [(1, some 16)], [], [], [(4, some 19)], [(5, some 20)], [], [(7, some 22)], [(8, some 23)], [(6, some 21), (9, some 24)], [(3, some 18), (10, some 25)], [(2, some 17), (11, some 26)]]
        [(0, some 15), (1, some 16), (2, some 17), (3, some 18), (4, some 19), (5, some 20), (6, some 21), (7, some 22), (8, some 23), (9, some 24), (10, some 25), (11, some 26), (12, some 27)]
        (by kernel_rfl) (by kernel_rfl) (by kernel_rfl) (by kernel_rfl) (by kernel_rfl) (by kernel_rfl) (by decide) (by decide) (fun w1 w2 h hb => ⟨h.1.keep hb, h.2.1.keep hb, h.2.2.1.keep hb, h.2.2.2.trans (hb.mono (Nat.le_of_lt h.1.lt))⟩) (fun _ _ _ _ h _ => h) ⟨G1.out.drew, G2.out.drew, G3.out.drew, G4.out.drew⟩ ?_ ?_
      · refine ⟨fun γ wx hS h => ⟨_, rfl, Or.inl ⟨rfl, ?_⟩⟩, fun γ wx hS h => ⟨_, rfl, Or.inl ⟨rfl, ?_⟩⟩, fun γ wx hS h => ⟨_, rfl, Or.inl ⟨rfl, ?_⟩⟩, fun γ wx hS h => ⟨_, rfl, Or.inl ⟨rfl, ?_⟩⟩, fun γ wx hS h => ⟨_, rfl, Or.inl ⟨rfl, ?_⟩⟩, fun γ wx hS h => ⟨_, rfl, Or.inl ⟨rfl, ?_⟩⟩, fun γ wx hS h => ⟨_, rfl, Or.inl ⟨rfl, ?_⟩⟩, fun γ wx hS h => ⟨_, rfl, Or.inl ⟨rfl, ?_⟩⟩, fun γ wx hS h => ⟨_, rfl, Or.inl ⟨rfl, ?_⟩⟩, fun γ wx hS h => ⟨_, rfl, Or.inl ⟨rfl, ?_⟩⟩, fun γ wx hS h => ⟨_, rfl, Or.inl ⟨rfl, ?_⟩⟩, fun γ wx hS h => ⟨_, rfl, Or.inl ⟨rfl, ?_⟩⟩, fun γ wx hS h => ⟨_, rfl, Or.inl ⟨rfl, ?_⟩⟩, trivial⟩
        · exact predRun_value rfl rfl
        · have e0 : γ 0 = .int .i64 i := h
          exact predRun_value (v := .pointer (some ⟨A, i, none⟩)) (by simp only [putE, e0]; go_simp) rfl
        · have e1 : γ 1 = .pointer (some ⟨A, i, none⟩) := h
          have c := hS.1.cell (i := i) (by rw [HL.out]; exact hlt)
          rw [HG.out] at c
          exact predRun_value (v := .int .u8 (x.getD i 0)) (by simp only [putE, e1]; go_simp) rfl
        · exact predRun_value rfl rfl
        · exact predRun_value rfl rfl
        · have e0 : γ 4 = .int .i64 i := h
          exact predRun_value (v := .pointer (some ⟨A, i, none⟩)) (by simp only [putE, e0]; go_simp) rfl
        · have e1 : γ 5 = .pointer (some ⟨A, i, none⟩) := h
          have c := hS.1.cell (i := i) (by rw [HL.out]; exact hlt)
          rw [HG.out] at c
          exact predRun_value (v := .int .u8 (x.getD i 0)) (by simp only [putE, e1]; go_simp) rfl
        · exact predRun_value rfl rfl
        · have e0 : γ 7 = .int .i64 i := h
          exact predRun_value (v := .pointer (some ⟨A + 1, i, none⟩)) (by simp only [putE, e0]; go_simp) rfl
        · have e1 : γ 8 = .pointer (some ⟨A + 1, i, none⟩) := h
          have c := hS.2.1.cell (i := i) (by rw [HY.out]; exact hlt)
          exact predRun_value (v := .int .u8 (y.getD i 0)) (by simp only [putE, e1]; go_simp) rfl
        · obtain ⟨h6, h9⟩ := h
          have e6 : γ 6 = .int .u8 (x.getD i 0) := h6
          have e9 : γ 9 = .int .u8 (y.getD i 0) := h9
          exact predRun_value (v := .int .u8 (bits .xor .u8 (x.getD i 0) (y.getD i 0))) (by simp only [putE, e6, e9]; generalize x.getD i 0 = a; generalize y.getD i 0 = b; go_simp) rfl
        · obtain ⟨h3, h10⟩ := h
          have e3 : γ 3 = .int .u8 0 := h3
          have e10 : γ 10 = .int .u8 (bits .xor .u8 (x.getD i 0) (y.getD i 0)) := h10
          exact predRun_value (v := .int .u8 (bits .and .u8 0 (bits .xor .u8 (x.getD i 0) (y.getD i 0)))) (by simp only [putE, e3, e10]; generalize bits .xor .u8 (x.getD i 0) (y.getD i 0) = b; go_simp) rfl
        · obtain ⟨h2, h11⟩ := h
          have e2 : γ 2 = .int .u8 (x.getD i 0) := h2
          have e11 : γ 11 = .int .u8 (bits .and .u8 0 (bits .xor .u8 (x.getD i 0) (y.getD i 0))) := h11
          exact predRun_value (v := .int .u8 (bits .xor .u8 (x.getD i 0) (bits .and .u8 0 (bits .xor .u8 (x.getD i 0) (y.getD i 0))))) (by simp only [putE, e2, e11]; generalize bits .and .u8 0 (bits .xor .u8 (x.getD i 0) (y.getD i 0)) = b; generalize x.getD i 0 = a; go_simp) rfl
      · intro γ w9 hS h
        have e12 : γ 12 = .int .u8 (bits .xor .u8 (x.getD i 0) (bits .and .u8 0 (bits .xor .u8 (x.getD i 0) (y.getD i 0)))) := h.2.2.2.2.2.2.2.2.2.2.2.2
        have e0 : γ 0 = .int .i64 i := h.1
        have HQ := Kp.mk (show bits .xor .u8 (x.getD i 0) (bits .and .u8 0 (bits .xor .u8 (x.getD i 0) (y.getD i 0))) = (x).getD i 0 from HP.out)
        rw [HQ.out] at e12
        have cw := hS.1.cell (i := i) (by rw [HL.out]; exact hlt)
        have fw := hS.1.frozen i
        have F1 := Kp.mk (hS.1.set i ((x).getD i 0))
        have F2 := Kp.mk (hS.2.1.other (p := ⟨A, i, none⟩) (by show A ≠ A + 1; omega) (.int .u8 ((x).getD i 0)))
        have F3 := Kp.mk (hS.2.2.1.other (p := ⟨A, i, none⟩) (by show A ≠ A + 2; omega) (.int .u8 ((x).getD i 0)))
        have F4 := Kp.mk (hS.2.2.2.setCell (p := ⟨A, i, none⟩) (by exact Nat.le_refl _) (.int .u8 ((x).getD i 0)))
        rw [HS.out] at F1
        simp only [putE, Act.put, List.setIfInBounds_toArray, List.set_cons_zero, List.set_cons_succ]
        rw [e12, e0]
        clear h hS e12 e0 HQ
        generalize (x).getD i 0 = t at *
        refine wpOps_step rfl rfl ?_
        go_simp
        refine wpOps_step rfl rfl ?_
        go_simp
        refine wpOps_done ?_
        clear cw fw
        generalize w9.setCell ⟨A, i, none⟩ (.int .u8 t) = w8 at *
        go_wp2_with fail
        exact ⟨⟨i + 1, by omega, by go_num, F1.out, F2.out, F3.out, F4.out⟩, by simp [intOf]; omega⟩
    · have HI : Kp (i = 16) := ⟨by omega⟩
      have hge : 16 ≤ (i : Int) := by omega
      have G5 : Kp (Row wr A 33 .u8 x) := ⟨by have h := G1.out; rw [HI.out, pk_full _ _ HT.out HX.out] at h; exact h⟩
      have HC := Kp.mk (cells50 HT.out)
      have HZ := Kp.mk (size50 HT.out)
      have HF := Kp.mk (G3.out.setRow x)
      have HBf := Kp.mk (Below.row G4.out (g := A + 2) (by omega) (kv .u8 x).toArray)
      clear hlt hi G1
      go_wp2_with (first
        | (refine wpList_load_row rfl 33 (.tmp 4) rfl A rfl 33 (kv .u8 x).toArray (0, 0) _ G5.out Tryd.underlying33 rfl HC.out ?_)
        | (refine wpList_store_row rfl 33 (.tmp 6) (.tmp 30) rfl (A + 2) (kv .u8 x).toArray rfl rfl 33 _ G3.out HC.out HZ.out (kv_all _ _) ?_))
      refine bodyPost_ret (v := dgV x) ?_ rfl ⟨rfl, by rw [← HA.out]; exact HBf.out⟩
      exact results_cell_row rfl _ _ (A + 2) 33 _ (0, 0) _ rfl HF.out Tryd.underlying33 rfl HC.out
end Go.Proofs.YtahmioiefmheeaaDoor

namespace Go.Proofs.YtahmioiefmheeaaDoor
open Go.RowKit

set_option maxRecDepth 100000 in
theorem app_run (w : World) (g : Nat) (hg : Blk w g (.cells #[] 5)) (M : Nat) (u : Value) (p : List Int) (hp : HoldsB w M u p) (hlen : p.length ≤ 140737488355328) :
    ∃ v' w', (Builtin.append_ #[22, 22] 22 #[.slice (some ⟨g, 0, none⟩) 0 0, u]).run Tryd.prog w = .ok v' w' ∧ Below w.heap.size w w' ∧ HoldsB w' w'.heap.size v' p := by
  obtain ⟨i0, hi, hz0, hz1, hz2⟩ := info_parts info5
  obtain ⟨ad, m, cap, rfl, hm⟩ := hp.slice
  by_cases h0 : p = []
  · subst h0
    have hm0 : m = 0 := by simpa using hm
    subst hm0
    have hh : HoldsB w w.heap.size (.slice (some ⟨g, 0, none⟩) 0 0) [] := ⟨_, 0, rfl, Nat.le_refl _, by unfold maxLen; omega, (fun e => by cases e), (fun x hx h => by simp at h), (fun x i hx hi => by simp at hi), Bytes.nil⟩
    refine ⟨.slice (some ⟨g, 0, none⟩) 0 0, w, ?_, Below.refl _ _, hh⟩
    cases ad with
    | none =>
      obtain ⟨_, _, e, _, _, hc, _⟩ := hp
      simp only [Value.slice.injEq] at e
      have := hc e.1.symm
      rw [e.2.2, this]
      exact run_append_owned_none (w := w) g 22 22 5 i0 1 Tryd.underlying22 hi _ 0 [] ⟨rfl, .inr ⟨g, 0, #[], rfl, Nat.le_refl _, hg, Nat.le_refl _, by unfold maxLen; omega, rfl, rfl⟩⟩
    | some ad =>
      have hf := run_firstCells_some (P := Tryd.prog) w i0.size 0 ad 0 cap [] (by simp) (by simp)
      simp [Builtin.append_, run_underlying Tryd.underlying22, sizeOf, typeInfo, hi, Builtin.lenOf, hf, storeCells]
  · have hpos : 0 < p.length := by cases p with | nil => exact absurd rfl h0 | cons => simp
    cases ad with
    | none =>
      obtain ⟨_, _, e, hle, _, hc, _⟩ := hp
      simp only [Value.slice.injEq] at e
      have := hc e.1.symm
      omega
    | some ad =>
      obtain ⟨v', w', hrun, r1, r2⟩ := run_append_arg_grows (P := Tryd.prog) w 22 22 5 i0 (.int .u8 0) 1 1 Tryd.underlying22 hi hz0 hz1 hz2 rfl (by decide) ⟨g, 0, none⟩ 0 0 [] rfl (fun j u h => by simp at h) ad m cap (bv p) (by rw [bv_len]; omega) hp.news (by omega) (by unfold maxLen; omega) (by omega)
      refine ⟨v', w', hrun, ⟨r2.os, r2.tape, r2.output, r2.size, fun k hk => r2.block k hk (by simp)⟩, ?_⟩
      rw [Nat.zero_add, hm, List.nil_append] at r1
      exact HoldsB.ofRow hp.bytes r1
theorem exec_append {o : Oper} {a : Act} {w w' : World} {s x : Operand} {u v v' : Value} (ho : o.op = .call { callee := .builtin .append, args := #[s, x], argTypes := #[22, 22] })
    (hs : a.eval s = v) (hx : a.eval x = u) (hr : (Builtin.append_ #[22, 22] o.type #[v, u]).run Tryd.prog w = .ok v' w') : (execOp a.eval o).run Tryd.prog w = .ok (.value v') w' := by
  unfold execOp
  simp only [ho, resolve, invoke, builtin, Sem.run_bind, Sem.run_pure, Result.andThen_ok, List.map_toArray, List.map_cons, List.map_nil, hs, hx, hr]
theorem bytes_inj {p q : List Int} (hp : Bytes p) (hq : Bytes q) : (p.map fun n => UInt8.ofNat n.toNat) = (q.map fun n => UInt8.ofNat n.toNat) ↔ p = q := by
  refine ⟨fun h => ?_, fun h => by rw [h]⟩
  induction p generalizing q with
  | nil => cases q with
    | nil => rfl
    | cons y r => simp at h
  | cons x p ih => cases q with
    | nil => simp at h
    | cons y r =>
      simp only [List.map_cons, List.cons.injEq] at h
      have hx := hp x (by simp)
      have hy := hq y (by simp)
      have h1 := congrArg UInt8.toNat h.1
      rw [UInt8.toNat_ofNat', UInt8.toNat_ofNat'] at h1
      have e : x = y := by omega
      rw [e, ih (fun z hz => hp z (List.mem_cons_of_mem _ hz)) (fun z hz => hq z (List.mem_cons_of_mem _ hz)) h.2]
theorem text_eq {p q : List Int} (hp : Bytes p) (hq : Bytes q) : ((strOfNums p).toList == (strOfNums q).toList) = decide (p = q) := by
  rw [Bool.eq_iff_iff, beq_iff_eq, decide_eq_true_iff]
  refine ⟨fun h => (bytes_inj hp hq).1 ?_, fun h => by rw [h]⟩
  have h2 : (strOfNums p).data.toList = (strOfNums q).data.toList := by
    rw [ByteArray.toList_eq, ByteArray.toList_eq] at h
    exact h
  exact h2
theorem eq32 {p q : List Int} (hp : Bytes p) (hq : Bytes q) (h : p.length = 16) (g : q.length = 16) (w : World) : (binOp .eql 32 (dgV p) (dgV q)).run Tryd.prog w = .ok (.bool (decide (p = q))) w := by
  have := run_equalIn_bytes (P := Tryd.prog) w 9998 32 5 16 Tryd.underlying32 Tryd.underlying5 size5 (p.map fun n => UInt8.ofNat n.toNat) (q.map fun n => UInt8.ofNat n.toNat) (by simp [h]) (by simp [g])
  rw [bv_cells hp, bv_cells hq] at this
  have e : ((p.map fun n => UInt8.ofNat n.toNat) == (q.map fun n => UInt8.ofNat n.toNat)) = decide (p = q) := by
    rw [Bool.eq_iff_iff, beq_iff_eq, decide_eq_true_iff]
    exact bytes_inj hp hq
  rw [e] at this
  rw [run_eql_struct, this]
  rfl
theorem eqg32 (p q : List Int) (x y : Operand) (w : World) : (eqGuard .eql 32 x y (dgV p) (dgV q)).run Tryd.prog w = .ok () w := by kernel_rfl
end Go.Proofs.YtahmioiefmheeaaDoor

namespace Go.Proofs.YtahmioiefmheeaaDoor
open Go.RowKit

/-- The slice v holds n short sums, whose bytes are l. -/
def HoldsS (w : World) (v : Value) (n : Nat) (l : List Int) : Prop :=
  ∃ a cap, v = .slice a n cap ∧ l.length = n * 16 ∧ n ≤ maxLen ∧ Bytes l ∧ (0 < n → ∃ b off, a = some ⟨b, off, none⟩ ∧ b < w.heap.size ∧ ∀ j, j < n * 16 → w.cell? ⟨b, off + j, none⟩ = some (.int .u8 (l.getD j 0)))
theorem HoldsS.keep {w w' : World} {v : Value} {n : Nat} {l : List Int} (h : HoldsS w v n l) (hb : Below w.heap.size w w') : HoldsS w' v n l := by
  obtain ⟨a, cap, h1, h2, h3, h4, h5⟩ := h
  refine ⟨a, cap, h1, h2, h3, h4, fun h0 => ?_⟩
  obtain ⟨b, off, ha, hlt, hc⟩ := h5 h0
  exact ⟨b, off, ha, Nat.lt_of_lt_of_le hlt hb.size, fun j hj => (hb.cell (p := ⟨b, off + j, none⟩) hlt).trans (hc j hj)⟩
theorem HoldsS.ofRow {w : World} {base n : Nat} {t : TypeId} {v : Value} {l : List Int} (h7 : Bytes l) (hn : n ≤ maxLen) (hl : l.length = n * 16) (h : w.ownsRow base t 16 v n (bv l)) : HoldsS w v n l := by
  rcases h.2 with ⟨rfl, h0⟩ | ⟨g, cap, cur, rfl, hb, hg, h1, h2, h3, h4⟩
  · subst h0
    exact ⟨none, 0, rfl, hl, hn, h7, fun h => by omega⟩
  · refine ⟨_, cap, rfl, hl, hn, h7, fun _ => ⟨g, 0, rfl, (Array.getElem?_eq_some_iff.1 hg).1, fun j hj => ?_⟩⟩
    rw [cell_of_row w g (0 + j) cur t (0, 0) hg]
    have h5 : (bv l)[j]? = some (.int .u8 (l.getD j 0)) := by
      rw [List.getElem?_map, List.getD_eq_getElem?_getD, List.getElem?_eq_getElem (by omega)]
      simp
    rw [← h4, List.getElem?_take, if_pos hj] at h5
    simpa using h5
theorem HoldsS.range {w : World} {a : Option Addr} {n m cap : Nat} {l : List Int} (h : HoldsS w (.slice a m cap) n l) {i : Nat} (hi : i < n) : ∃ b off, a = some ⟨b, off, none⟩ ∧ b < w.heap.size ∧ w.rangeAt b (off + i * 16) (bv (segL l i)) := by
  obtain ⟨a', cap', h1, h2, h3, h4, h5⟩ := h
  simp only [Value.slice.injEq] at h1
  obtain ⟨rfl, rfl, rfl⟩ := h1
  obtain ⟨b, off, rfl, hlt, hc⟩ := h5 (by omega)
  refine ⟨b, off, rfl, hlt, fun j v hv => ?_⟩
  unfold segL bv at hv
  have hj : j < 16 := by
    have := (List.getElem?_eq_some_iff.1 hv).1
    rw [List.length_map, List.length_take] at this
    omega
  have := hc (i * 16 + j) (by omega)
  rw [Nat.add_assoc, this, ← hv, List.getElem?_map, List.getElem?_take, if_pos hj, List.getElem?_drop, List.getD_eq_getElem?_getD, List.getElem?_eq_getElem (by omega)]
  rfl
theorem wpList_buildSlice_one {P : Program} {w : World} {ops : Array Oper} {rest : List Oper} {o : Oper} {a : Act} {Q : Exit → Act → World → Prop} (hg : o.guard = none) (t : TypeId) (len : Nat) (x : Operand) (ho : o.op = .buildSlice t len #[(0, x)])
    (u : Value) (hx : a.eval x = u) (v : Value) (w' : World) (hrun : (Instr.buildSlice t len #[(0, u)]).run P w = .ok v w') (h : wpList P ops Q rest (a.put o.dst v) w') : wpList P ops Q (o :: rest) a w := by
  subst hx
  refine wpList_plain hg fun _ hK => ?_
  unfold Oper.wp execOp
  simp only [ho, Sem.run_bind, List.map_toArray, List.map_cons, List.map_nil, hrun, Result.andThen_ok]
  exact hK _ _ h
theorem list16 {p : List Int} (h : p.length = 16) : ∃ x0 x1 x2 x3 x4 x5 x6 x7 x8 x9 x10 x11 x12 x13 x14 x15, p = [x0, x1, x2, x3, x4, x5, x6, x7, x8, x9, x10, x11, x12, x13, x14, x15] := by
  match p, h with
  | [x0, x1, x2, x3, x4, x5, x6, x7, x8, x9, x10, x11, x12, x13, x14, x15], _ => exact ⟨x0, x1, x2, x3, x4, x5, x6, x7, x8, x9, x10, x11, x12, x13, x14, x15, rfl⟩
set_option maxRecDepth 100000 in
theorem build65 {p : List Int} (h : p.length = 16) (w : World) : (Instr.buildSlice 65 1 #[(0, dgV p)]).run Tryd.prog w = .ok (.slice (some ⟨w.heap.size, 0, none⟩) 1 1) (w.alloc (.cells (bv p).toArray 32)) := by
  obtain ⟨x0, x1, x2, x3, x4, x5, x6, x7, x8, x9, x10, x11, x12, x13, x14, x15, rfl⟩ := list16 h
  kernel_rfl
set_option maxRecDepth 100000 in
theorem build66 {p : List Int} (h : p.length = 16) (w : World) : (Instr.buildSlice 66 1 #[(0, dgV p)]).run Tryd.prog w = .ok (.slice (some ⟨w.heap.size, 0, none⟩) 1 1) (w.alloc (.cells (bv p).toArray 33)) := by
  obtain ⟨x0, x1, x2, x3, x4, x5, x6, x7, x8, x9, x10, x11, x12, x13, x14, x15, rfl⟩ := list16 h
  kernel_rfl
theorem row_new (w : World) (l : List Int) (t : TypeId) : ∀ j u, (bv l)[j]? = some u → (w.alloc (.cells (bv l).toArray t)).cell? ((⟨w.heap.size, 0, none⟩ : Addr).add j) = some u := by
  intro j u hu
  have e : (⟨w.heap.size, 0, none⟩ : Addr).add j = ⟨w.heap.size, j, none⟩ := by unfold Addr.add; split <;> simp_all
  rw [e, (Blk.new w (.cells (bv l).toArray t)).cell j, List.getElem?_toArray]
  exact hu
theorem info32s : (Tryd.prog.info? 32).map (fun i => (i.zero, i.size, i.bytes)) = some (some (.agg #[.int .u8 0, .int .u8 0, .int .u8 0, .int .u8 0, .int .u8 0, .int .u8 0, .int .u8 0, .int .u8 0, .int .u8 0, .int .u8 0, .int .u8 0, .int .u8 0, .int .u8 0, .int .u8 0, .int .u8 0, .int .u8 0]), 16, 16) := by kernel_rfl
theorem cellsL33 {l : List Int} (h : l.length = 16) : (Tryd.prog.info? 33).map (·.size) = some (bv l).length := by rw [List.length_map, h]; exact info33L
theorem info32L : (Tryd.prog.info? 32).map (·.size) = some 16 := by kernel_rfl
theorem cellsL32 {l : List Int} (h : l.length = 16) : (Tryd.prog.info? 32).map (·.size) = some (bv l).length := by rw [List.length_map, h]; exact info32L
theorem take16 (l : List Int) (i : Nat) : bv (l.take (i * 16)) ++ bv (segL l i) = bv (l.take ((i + 1) * 16)) := by
  unfold segL bv
  rw [← List.map_append, show (i + 1) * 16 = i * 16 + 16 by omega, List.take_add]
set_option maxRecDepth 100000 in
set_option maxHeartbeats 1600000 in
theorem fromS_any (v : Value) (n : Nat) (l : List Int) (w : World) (h : HoldsS w v n l) (hn : n ≤ 1000000) :
    Calls Tryd.prog 50 #[v] w fun r w' => ∃ v', r = .returned v' ∧ w'.ownsRow w.heap.size 32 16 v' n (bv l) ∧ Below w.heap.size w w' := by
  have HS := Lib.hid h
  obtain ⟨a, cap, rfl, hl, -⟩ := h
  have HL := Lib.hid hl
  obtain ⟨i0, hi, hz0, hz1, hz2⟩ := info_parts info32s
  clear hl
  go_enter Tryd.func50, Tryd.ntmps50
  go_wp2_with fail
  go_loopw [3, 8] (fun v c wr => ∃ i : Nat, i ≤ n ∧ c = .int .i64 i ∧ wr.ownsRow w.heap.size 32 16 v i (bv (l.take (i * 16))) ∧ Below w.heap.size w wr) (fun _ c _ => n - (intOf c).toNat)
  case atStart => exact ⟨0, by omega, rfl, World.ownsRow_nil _ _ _ _, Below.refl _ _⟩
  case round =>
    obtain ⟨i, hi', rfl, hrow, hE⟩ := hrel
    by_cases hlt : i < n
    · obtain ⟨b, off, rfl, hbl, hrange⟩ := (HS.out.keep hE).range hlt
      have hlp := segL_len HL.out hlt
      have HX := Lib.hid (take16 l i)
      generalize segL l i = p at hrange hlp HX
      have HR := Lib.hid hrange
      have HE := Lib.hid hE
      have HROW : Hid (((wr.alloc z50).setRow wr.heap.size (bv p).toArray).ownsRow w.heap.size 32 16 u3 i (bv (l.take (i * 16)))) := by
        unfold Hid
        rw [World.setRow_alloc_new]
        exact hrow.alloc _
      have HG : Hid (((wr.alloc z50).setRow wr.heap.size (bv p).toArray).heap[wr.heap.size]? = some (.cells (bv p).toArray 33 (0, 0))) := (Blk.new wr z50).setRow _
      have HE2 : Hid (Below w.heap.size w ((wr.alloc z50).setRow wr.heap.size (bv p).toArray)) := by
        unfold Hid
        exact Below.row (hE.alloc hE.size z50) hE.size _
      have hbs := build65 hlp
      have HC := Lib.hid (cells50 hlp)
      have HCL := Lib.hid (cellsL33 hlp)
      have HLP := Lib.hid hlp
      generalize bv (l.take (i * 16)) = xs at HROW HX hrow
      clear hrange hrow hE hlp
      go_wp2_with (first
        | (refine wpList_load_mid rfl 33 (.tmp 10) rfl b (off + i * 16) rfl (bv p) _ HR.out Tryd.underlying33 rfl HCL.out ?_)
        | (refine wpList_store_row rfl 33 (.tmp 5) (.tmp 11) rfl wr.heap.size (bv p).toArray rfl rfl 33 _ (Blk.new wr z50) HC.out (size50 HLP.out) (kv_all _ p) ?_)
        | (refine wpList_load_row rfl 33 (.tmp 5) rfl wr.heap.size rfl 33 (bv p).toArray (0, 0) _ HG.out Tryd.underlying33 rfl HC.out ?_)
        | (refine wpList_buildSlice_one rfl 65 1 (.tmp 13) rfl (dgV p) rfl _ _ (hbs _) ?_)
        | (at_builtin; refine wpList_append_own _ rfl _ _ 65 rfl w.heap.size 32 i0 _ 16 16 Tryd.underlying65 hi hz0 hz1 hz2 rfl (by decide) _ _ _ rfl (HROW.out.alloc _) ⟨((wr.alloc z50).setRow wr.heap.size (bv p).toArray).heap.size, 0, none⟩ 1 1 (bv p) rfl ?c0 (row_new _ _ _) ?c2 ?c3 ?c4 ?c5 ?_))
      case c0 => rw [bv_len, HLP.out]
      case c2 => exact bv_one _
      case c3 => unfold maxLen; omega
      case c4 => omega
      case c5 => have := HE2.out.size; simp at this ⊢; omega
      · intro v' w4 hown' hgrow _
        have HO4 := Lib.hid hown'
        have HB4 := Lib.hid (below_row_grown (HE2.out.alloc HE2.out.size _) (by have := HE2.out.size; simp at this ⊢; omega) (HROW.out.alloc _) hgrow)
        clear hown' hgrow hbs
        go_wp2_with fail
        exact ⟨⟨i + 1, by omega, by go_num, by have := HO4.out; rw [HX.out] at this; exact this, HB4.out⟩, by simp [intOf]; omega⟩
    · obtain rfl : i = n := by omega
      have HROW := Lib.hid hrow
      have HE := Lib.hid hE
      clear hrow hE
      go_wp2_with fail
      go_ret
      refine ⟨_, rfl, ?_, HE.out⟩
      have := HROW.out
      rw [List.take_of_length_le (by have := HL.out; omega)] at this
      exact this
set_option maxRecDepth 100000 in
set_option maxHeartbeats 1600000 in
theorem toS_any (v : Value) (n : Nat) (l : List Int) (w : World) (h : HoldsS w v n l) (hn : n ≤ 1000000) :
    Calls Tryd.prog 47 #[v] w fun r w' => ∃ v', r = .returned v' ∧ w'.ownsRow w.heap.size 33 16 v' n (bv l) ∧ Below w.heap.size w w' := by
  have HS := Lib.hid h
  obtain ⟨a, cap, rfl, hl, -⟩ := h
  have HL := Lib.hid hl
  obtain ⟨i0, hi, hz0, hz1, hz2⟩ := info_parts info33m
  clear hl
  go_enter Tryd.func47, Tryd.ntmps47
  go_wp2_with fail
  go_loopw [3, 8] (fun v c wr => ∃ i : Nat, i ≤ n ∧ c = .int .i64 i ∧ wr.ownsRow w.heap.size 33 16 v i (bv (l.take (i * 16))) ∧ Below w.heap.size w wr) (fun _ c _ => n - (intOf c).toNat)
  case atStart => exact ⟨0, by omega, rfl, World.ownsRow_nil _ _ _ _, Below.refl _ _⟩
  case round =>
    obtain ⟨i, hi', rfl, hrow, hE⟩ := hrel
    by_cases hlt : i < n
    · obtain ⟨b, off, rfl, hbl, hrange⟩ := (HS.out.keep hE).range hlt
      have hlp := segL_len HL.out hlt
      have HX := Lib.hid (take16 l i)
      generalize segL l i = p at hrange hlp HX
      have HR := Lib.hid hrange
      have HE := Lib.hid hE
      have HROW : Hid (((wr.alloc z49).setRow wr.heap.size (bv p).toArray).ownsRow w.heap.size 33 16 u3 i (bv (l.take (i * 16)))) := by
        unfold Hid
        rw [World.setRow_alloc_new]
        exact hrow.alloc _
      have HG : Hid (((wr.alloc z49).setRow wr.heap.size (bv p).toArray).heap[wr.heap.size]? = some (.cells (bv p).toArray 32 (0, 0))) := (Blk.new wr z49).setRow _
      have HE2 : Hid (Below w.heap.size w ((wr.alloc z49).setRow wr.heap.size (bv p).toArray)) := by
        unfold Hid
        exact Below.row (hE.alloc hE.size z49) hE.size _
      have hbs := build66 hlp
      have HC := Lib.hid (cells49 hlp)
      have HCL := Lib.hid (cellsL32 hlp)
      have HLP := Lib.hid hlp
      generalize bv (l.take (i * 16)) = xs at HROW HX hrow
      clear hrange hrow hE hlp
      go_wp2_with (first
        | (refine wpList_load_mid rfl 32 (.tmp 10) rfl b (off + i * 16) rfl (bv p) _ HR.out Tryd.underlying32 rfl HCL.out ?_)
        | (refine wpList_store_row rfl 32 (.tmp 5) (.tmp 11) rfl wr.heap.size (bv p).toArray rfl rfl 32 _ (Blk.new wr z49) HC.out (size50 HLP.out) (kv_all _ p) ?_)
        | (refine wpList_load_row rfl 32 (.tmp 5) rfl wr.heap.size rfl 32 (bv p).toArray (0, 0) _ HG.out Tryd.underlying32 rfl HC.out ?_)
        | (refine wpList_buildSlice_one rfl 66 1 (.tmp 13) rfl (dgV p) rfl _ _ (hbs _) ?_)
        | (at_builtin; refine wpList_append_own _ rfl _ _ 66 rfl w.heap.size 33 i0 _ 16 16 Tryd.underlying66 hi hz0 hz1 hz2 rfl (by decide) _ _ _ rfl (HROW.out.alloc _) ⟨((wr.alloc z49).setRow wr.heap.size (bv p).toArray).heap.size, 0, none⟩ 1 1 (bv p) rfl ?c0 (row_new _ _ _) ?c2 ?c3 ?c4 ?c5 ?_))
      case c0 => rw [bv_len, HLP.out]
      case c2 => exact bv_one _
      case c3 => unfold maxLen; omega
      case c4 => omega
      case c5 => have := HE2.out.size; simp at this ⊢; omega
      · intro v' w4 hown' hgrow _
        have HO4 := Lib.hid hown'
        have HB4 := Lib.hid (below_row_grown (HE2.out.alloc HE2.out.size _) (by have := HE2.out.size; simp at this ⊢; omega) (HROW.out.alloc _) hgrow)
        clear hown' hgrow hbs
        go_wp2_with fail
        exact ⟨⟨i + 1, by omega, by go_num, by have := HO4.out; rw [HX.out] at this; exact this, HB4.out⟩, by simp [intOf]; omega⟩
    · obtain rfl : i = n := by omega
      have HROW := Lib.hid hrow
      have HE := Lib.hid hE
      clear hrow hE
      go_wp2_with fail
      go_ret
      refine ⟨_, rfl, ?_, HE.out⟩
      have := HROW.out
      rw [List.take_of_length_le (by have := HL.out; omega)] at this
      exact this
theorem neq32 {p q : List Int} (hp : Bytes p) (hq : Bytes q) (h : p.length = 16) (g : q.length = 16) (w : World) : (binOp .neq 32 (dgV p) (dgV q)).run Tryd.prog w = .ok (.bool (!decide (p = q))) w := by
  have := run_equalIn_bytes (P := Tryd.prog) w 9998 32 5 16 Tryd.underlying32 Tryd.underlying5 size5 (p.map fun n => UInt8.ofNat n.toNat) (q.map fun n => UInt8.ofNat n.toNat) (by simp [h]) (by simp [g])
  rw [bv_cells hp, bv_cells hq] at this
  have e : ((p.map fun n => UInt8.ofNat n.toNat) == (q.map fun n => UInt8.ofNat n.toNat)) = decide (p = q) := by
    rw [Bool.eq_iff_iff, beq_iff_eq, decide_eq_true_iff]
    exact bytes_inj hp hq
  rw [e] at this
  rw [run_neq_struct, this]
  rfl
theorem exec_load_midS {P : Program} {o : Oper} {a : Act} {w : World} {ty : TypeId} {x : Operand} {b off : Nat} {cs : List Value} {d : TypeDesc} (ho : o.op = .load ty x) (hx : a.eval x = .pointer (some ⟨b, off, none⟩)) (hc : w.rangeAt b off cs)
    (hu : P.underlying ty = some d) (hd : d.isRow = true) (hi : (P.info? ty).map (·.size) = some cs.length) : (execOp a.eval o).run P w = .ok (.value (.agg cs.toArray)) w := by
  unfold execOp
  simp only [ho, hx, Instr.loadAt, Instr.sureAddr, Sem.run_bind, Sem.run_pure, Result.andThen_ok, run_loadVar_mid w b off ty cs d hc hu hd hi]
theorem take_seg (l : List Int) (i : Nat) : l.take ((i + 1) * 16) = l.take (i * 16) ++ segL l i := by
  unfold segL
  rw [show (i + 1) * 16 = i * 16 + 16 by omega, List.take_add]
theorem neg32 (p q : List Int) (x y : Operand) (w : World) : (eqGuard .neq 32 x y (dgV p) (dgV q)).run Tryd.prog w = .ok () w := by kernel_rfl
set_option maxRecDepth 100000 in
set_option maxHeartbeats 1600000 in
theorem sames_any (va vb : Value) (n m : Nat) (l k : List Int) (w : World) (ha : HoldsS w va n l) (hb : HoldsS w vb m k) (hn : n ≤ 1000000) (hm : m ≤ 1000000) :
    Calls Tryd.prog 49 #[va, vb] w fun r w' => r = .returned (.bool (decide (n = m ∧ l = k))) ∧ Below w.heap.size w w' := by
  have HA := Lib.hid ha
  have HB := Lib.hid hb
  obtain ⟨a, cap, rfl, hl, -, hby, -⟩ := ha
  obtain ⟨a2, cap2, rfl, hk, -, hby2, -⟩ := hb
  have HL := Lib.hid hl
  have HL2 := Lib.hid hk
  have HBY := Lib.hid hby
  have HBY2 := Lib.hid hby2
  clear hl hby hk hby2
  go_enter Tryd.func49, Tryd.ntmps49
  by_cases hnm : n = m
  · subst hnm
    have HD : Hid (decide (n = n ∧ l = k) = decide (l = k)) := by
      unfold Hid
      simp
    rw [HD.out]
    have tn : ((n : Int) != (n : Int)) = false := by simp
    go_wp2_with fail
    clear tn
    go_loopw [5] (fun c wr => ∃ i : Nat, i ≤ n ∧ c = .int .i64 i ∧ Hid (l.take (i * 16) = k.take (i * 16)) ∧ Below w.heap.size w wr) (fun c _ => n - (intOf c).toNat)
    case atStart => exact ⟨0, by omega, rfl, by unfold Hid; simp, Below.refl _ _⟩
    case round =>
      obtain ⟨i, hi', rfl, HT, hE⟩ := hrel
      by_cases hlt : i < n
      · obtain ⟨b, off, rfl, hbl, hrange⟩ := (HA.out.keep hE).range hlt
        obtain ⟨b2, off2, rfl, hbl2, hrange2⟩ := (HB.out.keep hE).range hlt
        have hlp := segL_len HL.out hlt
        have hlq := segL_len HL2.out hlt
        have heq := Lib.hid (neq32 (HBY.out.seg i) (HBY2.out.seg i) hlp hlq)
        have HT1 := Lib.hid (take_seg l i)
        have HT2 := Lib.hid (take_seg k i)
        have HNE : Hid (segL l i ≠ segL k i → l ≠ k) := by
          unfold Hid
          intro h e
          exact h (by rw [e])
        generalize segL l i = p at hrange hlp heq HT1 HNE
        generalize segL k i = q at hrange2 hlq heq HT2 HNE
        have HCL := Lib.hid (cellsL32 hlp)
        have HCL2 := Lib.hid (cellsL32 hlq)
        have HE := Lib.hid hE
        have HR := Lib.hid (And.intro hrange hrange2)
        have HBL := Lib.hid (And.intro hbl hbl2)
        clear hrange hrange2 hE hbl hbl2 hlp hlq
        go_wp2_with fail
        refine wp_region_flow (fun w' => Below w.heap.size w w' ∧ wr.heap.size ≤ w'.heap.size ∧ w'.rangeAt b (off + i * 16) (bv p) ∧ w'.rangeAt b2 (off2 + i * 16) (bv q)) (by kernel_rfl) (by kernel_rfl) (by kernel_rfl)
          (fun w1 w2 h hb => ⟨h.1.trans (hb.mono h.1.size), Nat.le_trans h.2.1 hb.size, fun j v hv => (hb.cell (p := ⟨b, off + i * 16 + j, none⟩) (by have := HBL.out.1; have := h.2.1; show b < _; omega)).trans (h.2.2.1 j v hv), fun j v hv => (hb.cell (p := ⟨b2, off2 + i * 16 + j, none⟩) (by have := HBL.out.2; have := h.2.1; show b2 < _; omega)).trans (h.2.2.2 j v hv)⟩)
          ⟨HE.out.drew, Nat.le_refl _, HR.out.1, HR.out.2⟩ ?_
        repeat (first
          | (apply Flow.value
             · rfl
             · (intro wx hS; exact exec_load_midS (b := b) rfl rfl hS.2.2.1 Tryd.underlying32 rfl HCL.out)
             try simp only [Act.put, List.setIfInBounds_toArray, List.set_cons_zero, List.set_cons_succ])
          | (apply Flow.value
             · rfl
             · (intro wx hS; exact exec_load_midS (b := b2) rfl rfl hS.2.2.2 Tryd.underlying32 rfl HCL2.out)
             try simp only [Act.put, List.setIfInBounds_toArray, List.set_cons_zero, List.set_cons_succ])
          | (apply Flow.value
             · rfl
             · (intro wx hS; clear hS; have hq := heq.out; have hg := neg32; go_simp; with_reducible rfl)
             try simp only [Act.put, List.setIfInBounds_toArray, List.set_cons_zero, List.set_cons_succ]))
        refine Flow.done ?_
        intro w4 hS
        have HE4 := Lib.hid hS.1
        clear hS heq
        by_cases hpq : p = q
        · have hd : decide (p = q) = true := by simp [hpq]
          have HT3 : Hid (l.take ((i + 1) * 16) = k.take ((i + 1) * 16)) := by
            unfold Hid
            rw [HT1.out, HT2.out, HT.out, hpq]
          rw [hd]
          clear hpq hd
          go_wp2_with fail
          exact ⟨⟨i + 1, by omega, by go_num, HT3, HE4.out⟩, by simp [intOf]; omega⟩
        · have hd : decide (p = q) = false := by simp [hpq]
          have HF : Hid (decide (l = k) = false) := by
            unfold Hid
            simpa using HNE.out hpq
          rw [hd]
          clear hpq hd
          go_wp2_with fail
          go_ret
          exact ⟨retb HF.out.symm, HE4.out⟩
      · obtain rfl : i = n := by omega
        have HE := Lib.hid hE
        have HF : Hid (decide (l = k) = true) := by
          unfold Hid
          have h := HT.out
          rw [List.take_of_length_le (by have := HL.out; omega), List.take_of_length_le (by have := HL2.out; omega)] at h
          simpa using h
        clear hE
        go_wp2_with fail
        go_ret
        exact ⟨retb HF.out.symm, HE.out⟩
  · have HF : Hid (decide (n = m ∧ l = k) = false) := by
      unfold Hid
      simp [hnm]
    have tn : ((n : Int) != (m : Int)) = true := by simp; omega
    go_wp2_with fail
    go_ret
    exact ⟨retb HF.out.symm, Below.refl _ _⟩
end Go.Proofs.YtahmioiefmheeaaDoor
