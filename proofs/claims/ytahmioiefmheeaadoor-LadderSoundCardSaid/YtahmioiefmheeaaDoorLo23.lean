/-
  The law LadderSound, walked.
-/
import Derived.Test.YtahmioiefmheeaaDoorLo22
namespace Go.Proofs.YtahmioiefmheeaaDoor
open Go.RowKit

theorem neq33 {p q : List Int} (hp : Bytes p) (hq : Bytes q) (h : p.length = 16) (g : q.length = 16) (w : World) : (binOp .neq 33 (dgV p) (dgV q)).run Tryd.prog w = .ok (.bool (!decide (p = q))) w := by
  have := run_equalIn_bytes (P := Tryd.prog) w 9998 33 5 16 Tryd.underlying33 Tryd.underlying5 size5 (p.map fun n => UInt8.ofNat n.toNat) (q.map fun n => UInt8.ofNat n.toNat) (by simp [h]) (by simp [g])
  rw [bv_cells hp, bv_cells hq] at this
  have e : ((p.map fun n => UInt8.ofNat n.toNat) == (q.map fun n => UInt8.ofNat n.toNat)) = decide (p = q) := by
    rw [Bool.eq_iff_iff, beq_iff_eq, decide_eq_true_iff]
    exact bytes_inj hp hq
  rw [e] at this
  rw [run_neq_struct, this]
  rfl
theorem rise_long (d e s r m i : Int) (x p : List Int) (n : Nat) (h : showOk r m i = true) (hn : 3 < n) : riseS d e s r x m i p n = fill 16 [] ∧ riseF r m i n = 22 := by
  have h1 := lev_range m
  have h4 : ¬ ((n : Int) = lev m) := by omega
  have h2 : riseOk r m i n = false := by simp [riseOk, h4]
  simp [riseS, riseF, h2, h, h4]
theorem way_len {r m i : Int} {len n : Nat} (h : (len : Int) = lev m) (hn : n = showN r m i) (hok : showOk r m i = true) : len = n := by
  rw [hn]
  simp only [showN, hok, if_true]
  omega
theorem sound_clash (d e s r : Int) (x xl : List Int) (m i : Int) (p : List Int) (n k : Nat) (hok : showOk r m i = true) (hk : lev m = k) (hn : (n : Int) = lev m) (hxl : xl.length = 16) (hp : p.length = n * 16)
    (htop : riseS d e s r xl m i p n = nodeS d e s r x (lev m).toNat 0) (hne : ¬ (xl = showS d e s r x m i ∧ p = showW d e s r x m i)) : ClashP (nodeT d e s r x k 0) (riseT d e s r xl m i p n) := by
  obtain ⟨h1, h2, h3, h4⟩ := showOk_spec hok
  obtain ⟨j, rfl⟩ : ∃ j : Nat, i = j := ⟨i.toNat, by omega⟩
  have hm := (lev_inv hk).1
  have hk2 : (lev m).toNat = k := by omega
  have hj : j < 2 ^ k := by omega
  have hnk : n = k := by omega
  subst hnk
  have hro : riseOk r m (j : Int) n = true := by simp [riseOk, hok, hn]
  have e1 : riseS d e s r xl m j p n = riseL d e s r xl j p n := by unfold riseS; rw [if_pos hro, Int.toNat_natCast]
  have e2 : riseT d e s r xl m j p n = riseTL d e s r xl j p n := by unfold riseT; rw [if_pos hro, Int.toNat_natCast]
  rw [e1, hk2] at htop
  rw [e2]
  rcases ladder_sound d e s r x xl n j p hxl hp hj htop with h | h
  · refine absurd ?_ hne
    simp only [showS, showW, hok, if_true, hk2, Int.toNat_natCast]
    exact h
  · exact h
theorem nodeT_cons (d e s r : Int) (x : List Int) (hx : x.length = 16) (k : Nat) (p : Int) : ∀ i, i < (nodeT d e s r x k p).length → ∃ a l, (nodeT d e s r x k p).getD i [] = a :: l ∧ l.length ≤ 1000000 := fun i hi => by
  have hm : (nodeT d e s r x k p).getD i [] ∈ nodeT d e s r x k p := by rw [List.getD_eq_getElem?_getD, List.getElem?_eq_getElem hi]; exact List.getElem_mem hi
  have h := nodeT_size d e s r x hx k p _ hm
  cases hc : (nodeT d e s r x k p).getD i [] with
  | nil => rw [hc] at h; simp at h
  | cons a l => rw [hc] at h; exact ⟨a, l, rfl, by simp at h; omega⟩
theorem riseT_cons (d e s r : Int) (x : List Int) (m i : Int) (p : List Int) (n : Nat) (hx : x.length = 16) (hp : p.length = n * 16) : ∀ l, l < (riseT d e s r x m i p n).length → ∃ a t, (riseT d e s r x m i p n).getD l [] = a :: t ∧ t.length ≤ 1000000 := fun l hl => by
  unfold riseT at hl ⊢
  split at hl
  · rename_i hok
    rw [if_pos hok]
    rw [riseTL_len] at hl
    rw [riseTL_at d e s r x i.toNat p n l hl]
    have h1 := riseL_len d e s r x i.toNat p hx l
    have h2 := segL_len hp hl
    split
    · exact ⟨_, _, rfl, by simp [placeL_len, h1, h2]⟩
    · exact ⟨_, _, rfl, by simp [placeL_len, h1, h2]⟩
  · simp at hl
theorem riseT_small (d e s r : Int) (x : List Int) (m i : Int) (p : List Int) (n : Nat) (hn : (n : Int) = lev m) : (riseT d e s r x m i p n).length ≤ 100 := by
  have := lev_range m
  unfold riseT
  split
  · rw [riseTL_len]; omega
  · simp
set_option maxRecDepth 100000 in
set_option maxHeartbeats 32000000 in
theorem ladderSound_walk (x0_0 x0_1 x0_2 : Int) (x1 x2 x3 : Int) (x4 x5 : List Int) (a6 : Option Addr) (len6 cap6 : Nat) (z6 : List Int) (x7 : Bool) (w : World) (_w0_0 : (Lit.int .i64 x0_0).wf = true) (w0_1 : (Lit.int .u32 x0_1).wf = true) (w0_2 : (Lit.int .u32 x0_2).wf = true) (_w1 : (Lit.int .i64 x1).wf = true) (_w2 : (Lit.int .i64 x2).wf = true) (_w3 : (Lit.int .i64 x3).wf = true) (l4 : x4.length = 16) (b4 : Bytes x4) (l5 : x5.length = 16) (b5 : Bytes x5) (w6 : HoldsS w (.slice a6 len6 cap6) len6 z6 ∧ len6 ≤ cap6 ∧ cap6 ≤ maxLen) (hk : KonIs w) :
    Calls Tryd.prog 11 #[plV x0_0 x0_1 x0_2, .int .i64 x1, .int .i64 x2, .int .i64 x3, dgV x4, dgV x5, .slice a6 len6 cap6, .bool x7] w fun e w' => e = .returned (.bool true) ∧ Below w.heap.size w w' := by
  have HE := Kp.mk (u32_wf w0_1)
  have HS := Kp.mk (u32_wf w0_2)
  have HX4 := Kp.mk l4
  have HB4 := Kp.mk b4
  have HX5 := Kp.mk l5
  have HB5 := Kp.mk b5
  have HK := Kp.mk hk
  have HR6 := Kp.mk w6.1
  have hc1 := w6.2.1
  have hc2 := w6.2.2
  unfold maxLen at hc2
  clear _w0_0 w0_1 w0_2 _w1 _w2 _w3 l4 b4 l5 b5 hk w6
  obtain ⟨z, hz⟩ : ∃ z, z = showS x0_0 x0_1 x0_2 x1 x4 x2 x3 := ⟨_, rfl⟩
  obtain ⟨n, hn⟩ : ∃ n, n = showN x1 x2 x3 := ⟨_, rfl⟩
  obtain ⟨Wl, hw⟩ : ∃ l, l = showW x0_0 x0_1 x0_2 x1 x4 x2 x3 := ⟨_, rfl⟩
  obtain ⟨top, htop⟩ : ∃ t, t = nodeS x0_0 x0_1 x0_2 x1 x4 (lev x2).toNat 0 := ⟨_, rfl⟩
  have HL_z : Kp (z.length = 16 ∧ Bytes z) := ⟨by rw [hz]; exact ⟨showS_len _ _ _ _ _ _ _, showS_bytes _ _ _ _ _ _ _⟩⟩
  have HL_top : Kp (top.length = 16 ∧ Bytes top) := ⟨by rw [htop]; exact ⟨nodeS_len _ _ _ _ _ _ _, nodeS_bytes _ _ _ _ _ _ _⟩⟩
  have HWl : Kp (Wl.length = n * 16 ∧ Bytes Wl) := ⟨by rw [hw, hn]; exact ⟨showW_len _ _ _ _ _ _ _, showW_bytes _ _ _ _ _ _ _⟩⟩
  have HN3 : Kp (n ≤ 3) := ⟨by rw [hn]; exact showN_le x1 x2 x3⟩
  have HZQ := Kp.mk (And.intro hz (And.intro hn hw))
  have HTop := Kp.mk htop
  clear hz hn hw htop
  obtain ⟨A, hA⟩ : ∃ A, A = w.heap.size := ⟨_, rfl⟩
  have HA := Kp.mk hA
  go_enter Tryd.func11, Tryd.ntmps11
  go_wp2_with fail
  rw [← hA]
  refine calls_world (fun W => Blk W A (.cells #[.int .i64 x0_0, .int .u32 x0_1, .int .u32 x0_2] 48) ∧ Row W (A + 1) 32 .u8 x4 ∧ Row W (A + 1 + 1) 32 .u8 x5 ∧ Below A w W) ⟨Blk.old (Blk.old (Blk.newAt _ hA) _) _, Blk.old (Blk.newAt _ (by simp [hA])) _, Blk.newAt _ (by simp [hA]), by rw [hA]; exact more (more (more (Below.refl _ _) _) _) _⟩ ?_
  clear hA
  rintro W1 ⟨g1, g2, g3, g4⟩
  refine (awake6 W1 (HK.out.keep (by rw [← HA.out]; exact g4))).mono ?_
  rintro r W2 ⟨rfl, hb⟩
  have P2 := Kp.mk (Blk.keep g1 hb)
  have R2_e := Kp.mk (g2.keep hb)
  have R2_l := Kp.mk (g3.keep hb)
  have B2 : Kp (Below A w W2) := ⟨g4.trans (hb.mono (Nat.le_of_lt (Blk.lt g1)))⟩
  have Y2_6 : Kp (HoldsS W2 (.slice a6 len6 cap6) len6 z6) := ⟨HR6.out.keep (by rw [← HA.out]; exact B2.out)⟩
  clear g1 g2 g3 g4 hb HR6
  go_wp2_with fail
  refine (right_any x1 x2 W2).mono ?_
  rintro q w1 ⟨rfl, e1⟩
  rw [e1]
  clear e1 w1
  cases hr : rightB x1 x2 with
  | false =>
    go_wp2_with fail
    refine (awake6 W2 (HK.out.keep (by rw [← HA.out]; exact B2.out))).mono ?_
    rintro r w3 ⟨rfl, hb⟩
    go_wp2_with fail
    go_ret
    exact ⟨rfl, by rw [← HA.out]; exact B2.out.trans (hb.mono (Nat.le_of_lt P2.out.lt))⟩
  | true =>
    by_cases c1 : x3 < 0
    · go_wp2_with fail
      refine (awake6 W2 (HK.out.keep (by rw [← HA.out]; exact B2.out))).mono ?_
      rintro r w3 ⟨rfl, hb⟩
      go_wp2_with fail
      go_ret
      exact ⟨rfl, by rw [← HA.out]; exact B2.out.trans (hb.mono (Nat.le_of_lt P2.out.lt))⟩
    by_cases c2 : x2 ≤ x3
    · go_wp2_with fail
      refine (awake6 W2 (HK.out.keep (by rw [← HA.out]; exact B2.out))).mono ?_
      rintro r w3 ⟨rfl, hb⟩
      go_wp2_with fail
      go_ret
      exact ⟨rfl, by rw [← HA.out]; exact B2.out.trans (hb.mono (Nat.le_of_lt P2.out.lt))⟩
    have HOK : Kp (showOk x1 x2 x3 = true) := ⟨showOk_specR.2 ⟨hr, by omega, by omega⟩⟩
    have HR5 : Kp (upS x0_0 x0_1 x0_2 x1 x4 x2 = top ∧ upF x1 x2 = 0) := ⟨by rw [HTop.out]; exact meets_up x0_0 x0_1 x0_2 x1 x4 x2 x3 HOK.out⟩
    clear hr
    cases x7 with
    | true =>
      go_wp2_with first
        | (refine wpList_load_row rfl 48 (.tmp 8) rfl A rfl 48 _ (0, 0) _ P2.out Tryd.underlying48 rfl (cells48 x0_0 x0_1 x0_2) ?_)
        | (refine wpList_load_row rfl 32 (.tmp 12) rfl (A + 1) rfl 32 _ (0, 0) _ R2_e.out Tryd.underlying32 rfl (cells49 HX4.out) ?_)
      refine (rshow_any x0_0 x0_1 x0_2 x1 x4 x2 x3 W2 HE.out HS.out HX4.out HB4.out).mono ?_
      rintro r w10 ⟨v', rfl, k1, k2, hb⟩
      rw [← HZQ.out.2.1, ← HZQ.out.2.2] at k1
      rw [← HZQ.out.1]
      obtain ⟨a2, c2, rfl, -⟩ := id k1
      have EY_v := Kp.mk k1
      have HFv : Kp (∀ x, a2 = some x → A + 1 + 1 < x.block) := ⟨fun x hx => by have h1 := (k2 x n c2 (by rw [hx])).1; have := R2_l.out.lt; omega⟩
      clear k1 k2
      have E0 := Kp.mk (P2.out.keep hb)
      have E_e := Kp.mk (R2_e.out.keep hb)
      have E_l := Kp.mk (R2_l.out.keep hb)
      have EY_6 := Kp.mk (Y2_6.out.keep hb)
      have EB : Kp (Below A w w10) := ⟨B2.out.trans (hb.mono (Nat.le_of_lt P2.out.lt))⟩
      clear hb P2 B2 R2_e R2_l Y2_6
      obtain ⟨g2, hB⟩ : ∃ B, B = w10.heap.size := ⟨_, rfl⟩
      have hbA : A < g2 := by rw [hB]; exact E0.out.lt
      have hbb_e : A + 1 < g2 := by rw [hB]; exact E_e.out.lt
      have hbb_l : A + 1 + 1 < g2 := by rw [hB]; exact E_l.out.lt
      obtain ⟨W3, hW⟩ : ∃ W, W = (w10.alloc z49).setRow g2 (kv .u8 z).toArray := ⟨_, rfl⟩
      have hN : Row (w10.alloc z49) g2 32 .u8 (fill 16 []) := Blk.newAt _ hB
      have P3 : Kp (Blk W3 A (.cells #[.int .i64 x0_0, .int .u32 x0_1, .int .u32 x0_2] 48)) := ⟨by rw [hW]; exact (setRow_other _ g2 A _ (by omega)).trans (Blk.old E0.out _)⟩
      have R3_e : Kp (Row W3 (A + 1) 32 .u8 x4) := ⟨by rw [hW]; exact Row.otherRow (Row.alloc E_e.out _) (by omega) _⟩
      have R3_l : Kp (Row W3 (A + 1 + 1) 32 .u8 x5) := ⟨by rw [hW]; exact Row.otherRow (Row.alloc E_l.out _) (by omega) _⟩
      have R3_g2 : Kp (Row W3 (g2) 32 .u8 z) := ⟨by rw [hW]; exact Row.setRow (k := .u8) (l := fill 16 []) hN _⟩
      have Y3_6 : Kp (HoldsS W3 (.slice a6 len6 cap6) len6 z6) := ⟨by rw [hW]; exact (HoldsS.keep EY_6.out (more (Below.refl _ _) _)).off2 (fun h0 => slice_off fun x hx => by have := EY_6.out.lt h0 x hx; omega) _⟩
      have Y3_v : Kp (HoldsS W3 (.slice a2 n c2) n Wl) := ⟨by rw [hW]; exact (HoldsS.keep EY_v.out (more (Below.refl _ _) _)).off2 (fun h0 => slice_off fun x hx => by have := EY_v.out.lt h0 x hx; omega) _⟩
      have B3 : Kp (Below A w W3) := ⟨by rw [hW]; exact Below.row (EB.out.alloc (by have := E0.out.lt; omega) _) (by omega) _⟩
      have HBe := Kp.mk hB
      have HG2x := Kp.mk hbb_l
      have hW2 : W3 = (w10.alloc z49).setRow w10.heap.size (kv .u8 z).toArray := by rw [hW, hB]
      clear hN hW hB E0 EB hbA E_e E_l hbb_e hbb_l EY_6 EY_v
      have HG2 : Kp (A + 1 + 1 < g2) := ⟨HG2x.out⟩
      clear HG2x
      obtain ⟨W4, hW⟩ : ∃ W, W = W3.setRow (A + 1 + 1) (kv .u8 z).toArray := ⟨_, rfl⟩
      have P4 : Kp (Blk W4 A (.cells #[.int .i64 x0_0, .int .u32 x0_1, .int .u32 x0_2] 48)) := ⟨by rw [hW]; exact (setRow_other _ (A + 1 + 1) A _ (by omega)).trans P3.out⟩
      have R4_e : Kp (Row W4 (A + 1) 32 .u8 x4) := ⟨by rw [hW]; exact Row.otherRow R3_e.out (by omega) _⟩
      have hg2 := HG2.out
      have R4_l : Kp (Row W4 (A + 1 + 1) 32 .u8 z) := ⟨by rw [hW]; exact R3_l.out.setRow z⟩
      have R4_g2 : Kp (Row W4 (g2) 32 .u8 z) := ⟨by rw [hW]; exact Row.otherRow R3_g2.out (by omega) _⟩
      have Y4_v : Kp (HoldsS W4 (.slice a2 n c2) n Wl) := ⟨by rw [hW]; exact Y3_v.out.off2 (fun _ => slice_off fun x hx => by have := HFv.out x hx; omega) _⟩
      have B4 : Kp (Below A w W4) := ⟨by rw [hW]; exact Below.row B3.out (by omega) _⟩
      have hn20 : n ≤ 3 := HN3.out
      have HRS : Kp (riseS x0_0 x0_1 x0_2 x1 z x2 x3 Wl n = top ∧ riseF x1 x2 x3 n = 0) := ⟨by rw [HTop.out, HZQ.out.1, HZQ.out.2.1, HZQ.out.2.2]; exact meets_rise x0_0 x0_1 x0_2 x1 x4 x2 x3 HOK.out⟩
      have HW6 := HWl
      have HW6n : Kp (n ≤ 1000000) := ⟨by omega⟩
      go_wp2_with first
        | (refine wpList_store_row rfl 32 (.tmp 17) (.tmp 54) rfl w10.heap.size (kv .u8 z).toArray rfl rfl 32 _ (Blk.new w10 z49) (cells49 HL_z.out.1) (size50 HL_z.out.1) (kv_all _ _) ?_; refine wpl_world (· = W3) hW2.symm ?_; clear hW2; intro W0 e0; rw [e0]; clear e0; rw [← HBe.out]; clear HBe)
        | (refine wpList_load_row rfl 32 (.tmp 17) rfl g2 rfl 32 _ (0, 0) _ R3_g2.out Tryd.underlying32 rfl (cells49 HL_z.out.1) ?_)
        | (refine wpList_store_row rfl 32 (.tmp 13) (.tmp 58) rfl (A + 1 + 1) (kv .u8 z).toArray rfl rfl 32 _ R3_l.out (cells49 HL_z.out.1) (by rw [kv_size, kv_size, HX5.out, HL_z.out.1]) (kv_all _ _) ?_; refine wpl_world (· = W4) hW.symm ?_; clear hW; intro W0 e0; rw [e0]; clear e0)
      obtain ⟨M4, hM⟩ : ∃ M, M = W4.heap.size := ⟨_, rfl⟩
      have hbA4 : A < M4 := by rw [hM]; exact P4.out.lt
      have hb4_e : A + 1 < M4 := by rw [hM]; exact R4_e.out.lt
      have hb4_l : A + 1 + 1 < M4 := by rw [hM]; exact R4_l.out.lt
      have hb4_g2 : g2 < M4 := by rw [hM]; exact R4_g2.out.lt
      have HM4 : Kp (M4 ≤ W4.heap.size) := ⟨Nat.le_of_eq hM⟩
      have HMs4 : Kp (W4.heap.size ≤ M4) := ⟨Nat.le_of_eq hM.symm⟩
      have HWB4_v : Kp (0 < n → ∀ x, a2 = some x → x.block < M4) := ⟨fun h0 x hx => Nat.lt_of_lt_of_le (Y4_v.out.lt h0 x hx) HMs4.out⟩
      clear hM
      refine wp_region_predQ (fun w' => Blk w' A (.cells #[.int .i64 x0_0, .int .u32 x0_1, .int .u32 x0_2] 48) ∧ Row w' (A + 1) 32 .u8 x4 ∧ Row w' (A + 1 + 1) 32 .u8 z ∧ Row w' (g2) 32 .u8 z ∧ HoldsS w' (.slice a2 n c2) n Wl ∧ M4 ≤ w'.heap.size ∧ Below A w w') [0, 1, 2, 3, 4, 5, 6, 7, 8, 9] [8] [10, 11]
        (fun ι w' v => match ι with
          | 0 | 1 => v = plV x0_0 x0_1 x0_2
          | 2 => v = .int .i64 x1
          | 3 => v = dgV x4
          | 4 => v = .int .i64 x2
          | 5 | 6 => v = .tuple #[dgV top, .int .i64 0]
          | 7 => v = dgV top
          | 8 => v = .int .i64 0
          | 9 => ∃ g, v = .pointer (some ⟨g, 0, none⟩) ∧ M4 ≤ g ∧ Row w' g 33 .u8 (fill 16 [])
          | _ => v = .bool true)
        [[], [(0, some 66)], [], [], [], [(1, some 67), (2, some 68), (3, some 69), (4, some 70)], [(5, some 71)], [(6, some 65)], [(6, some 65)], []]
        [[(6, some 65)]]
        [(0, some 66), (1, some 67), (2, some 68), (3, some 69), (4, some 70), (5, some 71), (6, some 65), (7, some 72), (8, some 73), (9, some 20)]
        (by kernel_rfl) (by kernel_rfl) (by kernel_rfl) (by kernel_rfl) (by kernel_rfl) (by kernel_rfl) (by kernel_rfl) (by decide) (by decide) (fun w1 w2 h hb => ⟨h.1.keep hb, h.2.1.keep hb, h.2.2.1.keep hb, h.2.2.2.1.keep hb, h.2.2.2.2.1.keep hb, Nat.le_trans h.2.2.2.2.2.1 hb.size, h.2.2.2.2.2.2.trans (hb.mono (Nat.le_of_lt h.1.lt))⟩) (fun c a w d v h => by cases d <;> exact h) ?_ ⟨P4.out.draw, R4_e.out.drew, R4_l.out.drew, R4_g2.out.drew, Y4_v.out.drew, HM4.out, B4.out.drew⟩ ?_ ?_ ?_
      · intro ι w1 w2 v h hb
        by_cases h9 : ι = 9
        · subst h9
          exact (by obtain ⟨g, e, h1, hg⟩ := h; exact ⟨g, e, h1, hg.keep hb⟩)
        match ι, h9, h with
        | 0, _, h => exact h
        | 1, _, h => exact h
        | 2, _, h => exact h
        | 3, _, h => exact h
        | 4, _, h => exact h
        | 5, _, h => exact h
        | 6, _, h => exact h
        | 7, _, h => exact h
        | 8, _, h => exact h
        | 9, g, h => exact absurd rfl g
        | _ + 10, _, h => exact h
      · refine ⟨fun γ wx hS h => ?_, fun γ wx hS h => ?_, fun γ wx hS h => ?_, fun γ wx hS h => ?_, fun γ wx hS h => ?_, fun γ wx hS h => ?_, fun γ wx hS h => ?_, fun γ wx hS h => ?_, fun γ wx hS h => ?_, fun γ wx hS h => ?_, trivial⟩
        · refine ⟨_, rfl, Or.inl ⟨rfl, predRun_value (exec_load_blk 48 (.tmp 8) rfl (A) rfl 48 _ (0, 0) _ hS.1 Tryd.underlying48 rfl (cells48 x0_0 x0_1 x0_2)) rfl⟩⟩
        · have h0 := h
          have e0 : γ 0 = plV x0_0 x0_1 x0_2 := h0
          refine ⟨_, rfl, Or.inl ⟨rfl, predRun_call (f := 32) (args := #[plV x0_0 x0_1 x0_2]) (by simp only [putE, e0]; go_simp) ?_⟩⟩
          exact (to_any x0_0 x0_1 x0_2 wx).mono fun e w2 ⟨h1, h2⟩ => ⟨_, h1, rfl, h2⟩
        · refine ⟨_, rfl, Or.inl ⟨rfl, predRun_value (v := .int .i64 x1) (by simp only [putE]; first | rfl | (go_simp; done) | (go_simp; with_reducible rfl) | (go_simp; rfl)) rfl⟩⟩
        · refine ⟨_, rfl, Or.inl ⟨rfl, predRun_value (exec_load_blk 32 (.tmp 12) rfl (A + 1) rfl 32 _ (0, 0) _ hS.2.1 Tryd.underlying32 rfl (cells49 HX4.out)) rfl⟩⟩
        · refine ⟨_, rfl, Or.inl ⟨rfl, predRun_value (v := .int .i64 x2) (by simp only [putE]; first | rfl | (go_simp; done) | (go_simp; with_reducible rfl) | (go_simp; rfl)) rfl⟩⟩
        · obtain ⟨h1, h2, h3, h4⟩ := h
          have e1 : γ 1 = plV x0_0 x0_1 x0_2 := h1
          have e2 : γ 2 = .int .i64 x1 := h2
          have e3 : γ 3 = dgV x4 := h3
          have e4 : γ 4 = .int .i64 x2 := h4
          refine ⟨_, rfl, Or.inl ⟨rfl, predRun_call (f := 31) (args := #[plV x0_0 x0_1 x0_2, .int .i64 x1, dgV x4, .int .i64 x2]) (by simp only [putE, e1, e2, e3, e4]; go_simp) ?_⟩⟩
          exact (up_any x0_0 x0_1 x0_2 x1 x4 x2 wx (HK.out.keep (by rw [← HA.out]; exact hS.2.2.2.2.2.2)) HE.out HS.out HX4.out HB4.out).mono fun e w2 ⟨h1, h2⟩ => ⟨_, h1, by show Value.tuple _ = Value.tuple _; rw [HR5.out.1, HR5.out.2], h2⟩
        · have h5 := h
          have e5 : γ 5 = .tuple #[dgV top, .int .i64 0] := h5
          refine ⟨_, rfl, Or.inl ⟨rfl, predRun_value (v := .tuple #[dgV top, .int .i64 0]) (by simp only [putE, e5]; first | rfl | (go_simp; done) | (go_simp; with_reducible rfl) | (go_simp; rfl)) rfl⟩⟩
        · have h6 := h
          have e6 : γ 6 = .tuple #[dgV top, .int .i64 0] := h6
          refine ⟨_, rfl, Or.inl ⟨rfl, predRun_value (v := dgV top) (by simp only [putE, e6]; first | rfl | (go_simp; done) | (go_simp; with_reducible rfl) | (go_simp; rfl)) rfl⟩⟩
        · have h6 := h
          have e6 : γ 6 = .tuple #[dgV top, .int .i64 0] := h6
          refine ⟨_, rfl, Or.inl ⟨rfl, predRun_value (v := .int .i64 0) (by simp only [putE, e6]; first | rfl | (go_simp; done) | (go_simp; with_reducible rfl) | (go_simp; rfl)) rfl⟩⟩
        · refine ⟨_, rfl, Or.inl ⟨rfl, predRun_new (w' := wx.alloc z50) (v := .pointer (some ⟨wx.heap.size, 0, none⟩)) (by simp only [putE]; first | rfl | (go_simp; done) | (go_simp; rfl)) (more (Below.refl _ _) _) ⟨_, rfl, hS.2.2.2.2.2.1, Blk.new _ _⟩⟩⟩
      · refine ⟨fun γ wx hS h => ?_, trivial⟩
        · have h6 := h
          have e6 : γ 6 = .tuple #[dgV top, .int .i64 0] := h6
          refine ⟨_, .int .i64 0, rfl, Or.inl ⟨rfl, fun wz => by simp only [putE, e6]; first | rfl | (go_simp; done) | (go_simp; rfl)⟩, rfl⟩
      · intro γ w9 hS h
        have ez : γ 7 = dgV top := h.2.2.2.2.2.2.2.1
        have e8 : γ 8 = .int .i64 0 := h.2.2.2.2.2.2.2.2.1
        obtain ⟨g8, ep, hMg, hg⟩ : ∃ g, γ 9 = .pointer (some ⟨g, 0, none⟩) ∧ M4 ≤ g ∧ Row w9 g 33 .u8 (fill 16 []) := h.2.2.2.2.2.2.2.2.2
        simp only [putE, Act.put, List.setIfInBounds_toArray, List.set_cons_zero, List.set_cons_succ]
        rw [ez, ep, e8]
        have HGA : Kp (Row w9 g8 33 .u8 (fill 16 [])) := ⟨hg⟩
        obtain ⟨W5, hW9⟩ : ∃ W, W = w9.setRow g8 (kv .u8 top).toArray := ⟨_, rfl⟩
        have P5 : Kp (Blk W5 A (.cells #[.int .i64 x0_0, .int .u32 x0_1, .int .u32 x0_2] 48)) := ⟨by rw [hW9]; exact (setRow_other _ g8 A _ (by omega)).trans hS.1⟩
        have R5_e : Kp (Row W5 (A + 1) 32 .u8 x4) := ⟨by rw [hW9]; exact Row.otherRow hS.2.1 (by omega) _⟩
        have R5_l : Kp (Row W5 (A + 1 + 1) 32 .u8 z) := ⟨by rw [hW9]; exact Row.otherRow hS.2.2.1 (by omega) _⟩
        have R5_g2 : Kp (Row W5 (g2) 32 .u8 z) := ⟨by rw [hW9]; exact Row.otherRow hS.2.2.2.1 (by omega) _⟩
        have R5_g8 : Kp (Row W5 (g8) 33 .u8 top) := ⟨by rw [hW9]; exact HGA.out.setRow top⟩
        have Y5_v : Kp (HoldsS W5 (.slice a2 n c2) n Wl) := ⟨by rw [hW9]; exact hS.2.2.2.2.1.off2 (fun h0 => wayb_off (HWB4_v.out h0) (by omega)) _⟩
        have B5 : Kp (Below A w W5) := ⟨by rw [hW9]; exact Below.row hS.2.2.2.2.2.2 (by omega) _⟩
        have HWk := Kp.mk hW9
        clear h hS ez ep hg hW9 P4 B4 HM4 HMs4 hMg hbA4 R4_e hb4_e R4_l hb4_l R4_g2 hb4_g2 e8 Y4_v HWB4_v
        refine wpOps_step rfl rfl ?_
        refine wp_store_rowD rfl 33 (.tmp 20) (.tmp 72) rfl g8 (kv .u8 top).toArray rfl rfl 33 _ HGA.out (cells50 HL_top.out.1) (size50 HL_top.out.1) (kv_all _ _) ?_
        rw [← HWk.out]
        clear HWk HGA
        refine wpOps_step rfl rfl ?_
        refine wp_assign_endD (d := some 21) (v := .int .i64 0) rfl rfl rfl ?_
        simp only [Act.put, List.setIfInBounds_toArray, List.set_cons_zero, List.set_cons_succ]
        refine wpOps_done ?_
        obtain ⟨M5, hM⟩ : ∃ M, M = W5.heap.size := ⟨_, rfl⟩
        have hbA5 : A < M5 := by rw [hM]; exact P5.out.lt
        have hb5_e : A + 1 < M5 := by rw [hM]; exact R5_e.out.lt
        have hb5_l : A + 1 + 1 < M5 := by rw [hM]; exact R5_l.out.lt
        have hb5_g2 : g2 < M5 := by rw [hM]; exact R5_g2.out.lt
        have hb5_g8 : g8 < M5 := by rw [hM]; exact R5_g8.out.lt
        have HM5 : Kp (M5 ≤ W5.heap.size) := ⟨Nat.le_of_eq hM⟩
        have HMs5 : Kp (W5.heap.size ≤ M5) := ⟨Nat.le_of_eq hM.symm⟩
        have HWB5_v : Kp (0 < n → ∀ x, a2 = some x → x.block < M5) := ⟨fun h0 x hx => Nat.lt_of_lt_of_le (Y5_v.out.lt h0 x hx) HMs5.out⟩
        clear hM
        go_wp2_with fail
        refine wp_region_predQ (fun w' => Blk w' A (.cells #[.int .i64 x0_0, .int .u32 x0_1, .int .u32 x0_2] 48) ∧ Row w' (A + 1) 32 .u8 x4 ∧ Row w' (A + 1 + 1) 32 .u8 z ∧ Row w' (g2) 32 .u8 z ∧ Row w' (g8) 33 .u8 top ∧ HoldsS w' (.slice a2 n c2) n Wl ∧ M5 ≤ w'.heap.size ∧ Below A w w') [0, 1, 2, 3, 4, 5, 6, 7, 8, 9, 10, 11, 12] [11] [13, 14]
          (fun ι w' v => match ι with
            | 0 | 1 => v = plV x0_0 x0_1 x0_2
            | 2 => v = .int .i64 x1
            | 3 => v = .int .i64 x2
            | 4 => v = .int .i64 x3
            | 5 => v = dgV z
            | 6 => v = .slice a2 n c2
            | 8 | 9 => v = .tuple #[dgV top, .int .i64 0]
            | 10 => v = dgV top
            | 11 => v = .int .i64 0
            | 7 => HoldsS w' v n Wl
            | 12 => ∃ g, v = .pointer (some ⟨g, 0, none⟩) ∧ M5 ≤ g ∧ Row w' g 33 .u8 (fill 16 [])
            | _ => v = .bool true)
          [[], [(0, some 75)], [], [], [], [], [], [(1, some 76), (6, some 81)], [(1, some 76), (2, some 77), (3, some 78), (4, some 79), (5, some 80), (7, some 82)], [(8, some 83)], [(9, some 74)], [(9, some 74)], []]
          [[(9, some 74)]]
          [(0, some 75), (1, some 76), (2, some 77), (3, some 78), (4, some 79), (5, some 80), (6, some 81), (7, some 82), (8, some 83), (9, some 74), (10, some 84), (11, some 85), (12, some 22)]
          (by kernel_rfl) (by kernel_rfl) (by kernel_rfl) (by kernel_rfl) (by kernel_rfl) (by kernel_rfl) (by kernel_rfl) (by decide) (by decide) (fun w1 w2 h hb => ⟨h.1.keep hb, h.2.1.keep hb, h.2.2.1.keep hb, h.2.2.2.1.keep hb, h.2.2.2.2.1.keep hb, h.2.2.2.2.2.1.keep hb, Nat.le_trans h.2.2.2.2.2.2.1 hb.size, h.2.2.2.2.2.2.2.trans (hb.mono (Nat.le_of_lt h.1.lt))⟩) (fun c a w d v h => by cases d <;> exact h) ?_ ⟨P5.out.draw, R5_e.out.drew, R5_l.out.drew, R5_g2.out.drew, R5_g8.out.drew, Y5_v.out.drew, HM5.out, B5.out.drew⟩ ?_ ?_ ?_
        · intro ι w1 w2 v h hb
          by_cases h7 : ι = 7
          · subst h7
            exact HoldsS.keep h hb
          by_cases h12 : ι = 12
          · subst h12
            exact (by obtain ⟨g, e, h1, hg⟩ := h; exact ⟨g, e, h1, hg.keep hb⟩)
          match ι, h7, h12, h with
          | 0, _, _, h => exact h
          | 1, _, _, h => exact h
          | 2, _, _, h => exact h
          | 3, _, _, h => exact h
          | 4, _, _, h => exact h
          | 5, _, _, h => exact h
          | 6, _, _, h => exact h
          | 7, g, _, h => exact absurd rfl g
          | 8, _, _, h => exact h
          | 9, _, _, h => exact h
          | 10, _, _, h => exact h
          | 11, _, _, h => exact h
          | 12, _, g, h => exact absurd rfl g
          | _ + 13, _, _, h => exact h
        · refine ⟨fun γ wx hS h => ?_, fun γ wx hS h => ?_, fun γ wx hS h => ?_, fun γ wx hS h => ?_, fun γ wx hS h => ?_, fun γ wx hS h => ?_, fun γ wx hS h => ?_, fun γ wx hS h => ?_, fun γ wx hS h => ?_, fun γ wx hS h => ?_, fun γ wx hS h => ?_, fun γ wx hS h => ?_, fun γ wx hS h => ?_, trivial⟩
          · refine ⟨_, rfl, Or.inl ⟨rfl, predRun_value (exec_load_blk 48 (.tmp 8) rfl (A) rfl 48 _ (0, 0) _ hS.1 Tryd.underlying48 rfl (cells48 x0_0 x0_1 x0_2)) rfl⟩⟩
          · have h0 := h
            have e0 : γ 0 = plV x0_0 x0_1 x0_2 := h0
            refine ⟨_, rfl, Or.inl ⟨rfl, predRun_call (f := 32) (args := #[plV x0_0 x0_1 x0_2]) (by simp only [putE, e0]; go_simp) ?_⟩⟩
            exact (to_any x0_0 x0_1 x0_2 wx).mono fun e w2 ⟨h1, h2⟩ => ⟨_, h1, rfl, h2⟩
          · refine ⟨_, rfl, Or.inl ⟨rfl, predRun_value (v := .int .i64 x1) (by simp only [putE]; first | rfl | (go_simp; done) | (go_simp; with_reducible rfl) | (go_simp; rfl)) rfl⟩⟩
          · refine ⟨_, rfl, Or.inl ⟨rfl, predRun_value (v := .int .i64 x2) (by simp only [putE]; first | rfl | (go_simp; done) | (go_simp; with_reducible rfl) | (go_simp; rfl)) rfl⟩⟩
          · refine ⟨_, rfl, Or.inl ⟨rfl, predRun_value (v := .int .i64 x3) (by simp only [putE]; first | rfl | (go_simp; done) | (go_simp; with_reducible rfl) | (go_simp; rfl)) rfl⟩⟩
          · refine ⟨_, rfl, Or.inl ⟨rfl, predRun_value (exec_load_blk 32 (.tmp 13) rfl (A + 1 + 1) rfl 32 _ (0, 0) _ hS.2.2.1 Tryd.underlying32 rfl (cells49 HL_z.out.1)) rfl⟩⟩
          · refine ⟨_, rfl, Or.inl ⟨rfl, predRun_value (v := .slice a2 n c2) (by simp only [putE]; first | rfl | (go_simp; done) | (go_simp; with_reducible rfl) | (go_simp; rfl)) rfl⟩⟩
          · obtain ⟨h1, h6⟩ := h
            have e1 : γ 1 = plV x0_0 x0_1 x0_2 := h1
            have e6 : γ 6 = .slice a2 n c2 := h6
            refine ⟨_, rfl, Or.inl ⟨rfl, predRun_call (f := 47) (args := #[.slice a2 n c2]) (by simp only [putE, e1, e6]; go_simp) ?_⟩⟩
            refine (toS_any _ n Wl wx hS.2.2.2.2.2.1 HW6n.out).mono ?_
            rintro e w2 ⟨v', h1, h2, h3⟩
            exact ⟨v', h1, HoldsS.ofRow HW6.out.2 (by have := HW6n.out; unfold maxLen; omega) HW6.out.1 h2, h3⟩
          · obtain ⟨h1, h2, h3, h4, h5, h7⟩ := h
            have e1 : γ 1 = plV x0_0 x0_1 x0_2 := h1
            have e2 : γ 2 = .int .i64 x1 := h2
            have e3 : γ 3 = .int .i64 x2 := h3
            have e4 : γ 4 = .int .i64 x3 := h4
            have e5 : γ 5 = dgV z := h5
            have p7 : HoldsS wx (γ 7) n Wl := h7
            obtain ⟨a7, c7, e7, -⟩ := id p7
            refine ⟨_, rfl, Or.inl ⟨rfl, predRun_call (f := 46) (args := #[plV x0_0 x0_1 x0_2, .int .i64 x1, .int .i64 x2, .int .i64 x3, dgV z, .slice a7 n c7]) (by simp only [putE, e1, e2, e3, e4, e5, e7]; go_simp) ?_⟩⟩
            rw [e7] at p7
            exact (rise_any x0_0 x0_1 x0_2 x1 x2 x3 z a7 n c7 Wl wx (HK.out.keep (by rw [← HA.out]; exact hS.2.2.2.2.2.2.2)) HE.out HS.out HL_z.out.1 HL_z.out.2 p7).mono fun e w2 ⟨h1, h2⟩ => ⟨_, h1, by show Value.tuple _ = Value.tuple _; rw [HRS.out.1, HRS.out.2], h2⟩
          · have h8 := h
            have e8 : γ 8 = .tuple #[dgV top, .int .i64 0] := h8
            refine ⟨_, rfl, Or.inl ⟨rfl, predRun_value (v := .tuple #[dgV top, .int .i64 0]) (by simp only [putE, e8]; first | rfl | (go_simp; done) | (go_simp; with_reducible rfl) | (go_simp; rfl)) rfl⟩⟩
          · have h9 := h
            have e9 : γ 9 = .tuple #[dgV top, .int .i64 0] := h9
            refine ⟨_, rfl, Or.inl ⟨rfl, predRun_value (v := dgV top) (by simp only [putE, e9]; first | rfl | (go_simp; done) | (go_simp; with_reducible rfl) | (go_simp; rfl)) rfl⟩⟩
          · have h9 := h
            have e9 : γ 9 = .tuple #[dgV top, .int .i64 0] := h9
            refine ⟨_, rfl, Or.inl ⟨rfl, predRun_value (v := .int .i64 0) (by simp only [putE, e9]; first | rfl | (go_simp; done) | (go_simp; with_reducible rfl) | (go_simp; rfl)) rfl⟩⟩
          · refine ⟨_, rfl, Or.inl ⟨rfl, predRun_new (w' := wx.alloc z50) (v := .pointer (some ⟨wx.heap.size, 0, none⟩)) (by simp only [putE]; first | rfl | (go_simp; done) | (go_simp; rfl)) (more (Below.refl _ _) _) ⟨_, rfl, hS.2.2.2.2.2.2.1, Blk.new _ _⟩⟩⟩
        · refine ⟨fun γ wx hS h => ?_, trivial⟩
          · have h9 := h
            have e9 : γ 9 = .tuple #[dgV top, .int .i64 0] := h9
            refine ⟨_, .int .i64 0, rfl, Or.inl ⟨rfl, fun wz => by simp only [putE, e9]; first | rfl | (go_simp; done) | (go_simp; rfl)⟩, rfl⟩
        · intro γ w9 hS h
          have ez : γ 10 = dgV top := h.2.2.2.2.2.2.2.2.2.2.1
          have e11 : γ 11 = .int .i64 0 := h.2.2.2.2.2.2.2.2.2.2.2.1
          obtain ⟨g9, ep, hMg, hg⟩ : ∃ g, γ 12 = .pointer (some ⟨g, 0, none⟩) ∧ M5 ≤ g ∧ Row w9 g 33 .u8 (fill 16 []) := h.2.2.2.2.2.2.2.2.2.2.2.2
          simp only [putE, Act.put, List.setIfInBounds_toArray, List.set_cons_zero, List.set_cons_succ]
          rw [ez, ep, e11]
          have HGA : Kp (Row w9 g9 33 .u8 (fill 16 [])) := ⟨hg⟩
          obtain ⟨W6, hW9⟩ : ∃ W, W = w9.setRow g9 (kv .u8 top).toArray := ⟨_, rfl⟩
          have P6 : Kp (Blk W6 A (.cells #[.int .i64 x0_0, .int .u32 x0_1, .int .u32 x0_2] 48)) := ⟨by rw [hW9]; exact (setRow_other _ g9 A _ (by omega)).trans hS.1⟩
          have R6_e : Kp (Row W6 (A + 1) 32 .u8 x4) := ⟨by rw [hW9]; exact Row.otherRow hS.2.1 (by omega) _⟩
          have R6_l : Kp (Row W6 (A + 1 + 1) 32 .u8 z) := ⟨by rw [hW9]; exact Row.otherRow hS.2.2.1 (by omega) _⟩
          have R6_g2 : Kp (Row W6 (g2) 32 .u8 z) := ⟨by rw [hW9]; exact Row.otherRow hS.2.2.2.1 (by omega) _⟩
          have R6_g8 : Kp (Row W6 (g8) 33 .u8 top) := ⟨by rw [hW9]; exact Row.otherRow hS.2.2.2.2.1 (by omega) _⟩
          have R6_g9 : Kp (Row W6 (g9) 33 .u8 top) := ⟨by rw [hW9]; exact HGA.out.setRow top⟩
          have Y6_v : Kp (HoldsS W6 (.slice a2 n c2) n Wl) := ⟨by rw [hW9]; exact hS.2.2.2.2.2.1.off2 (fun h0 => wayb_off (HWB5_v.out h0) (by omega)) _⟩
          have B6 : Kp (Below A w W6) := ⟨by rw [hW9]; exact Below.row hS.2.2.2.2.2.2.2 (by omega) _⟩
          have HWk := Kp.mk hW9
          clear h hS ez ep hg hW9 P5 B5 HM5 HMs5 hMg hbA5 R5_e hb5_e R5_l hb5_l R5_g2 hb5_g2 R5_g8 hb5_g8 e11 Y5_v HWB5_v
          refine wpOps_step rfl rfl ?_
          refine wp_store_rowD rfl 33 (.tmp 22) (.tmp 84) rfl g9 (kv .u8 top).toArray rfl rfl 33 _ HGA.out (cells50 HL_top.out.1) (size50 HL_top.out.1) (kv_all _ _) ?_
          rw [← HWk.out]
          clear HWk HGA
          refine wpOps_step rfl rfl ?_
          refine wp_assign_endD (d := some 23) (v := .int .i64 0) rfl rfl rfl ?_
          simp only [Act.put, List.setIfInBounds_toArray, List.set_cons_zero, List.set_cons_succ]
          refine wpOps_done ?_
          have hq : ∀ w, (binOp .neq 33 (dgV top) (dgV top)).run Tryd.prog w = .ok (.bool false) w := fun w => neq50 (p := top) HL_top.out.2 HL_top.out.1 w
          have hg := neg50
          have hq2 : ∀ w, (binOp .eql 32 (dgV z) (dgV z)).run Tryd.prog w = .ok (.bool true) w := fun w => by rw [eq32 HL_z.out.2 HL_z.out.2 HL_z.out.1 HL_z.out.1 w, decide_eq_true rfl]
          have hg2' := eqg32
          go_wp2_with first
            | (refine wpList_load_rowG rfl 33 (.tmp 22) rfl g9 rfl 33 _ (0, 0) _ R6_g9.out Tryd.underlying33 rfl (cells50 HL_top.out.1) ?_)
            | (refine wpList_load_rowG rfl 33 (.tmp 20) rfl g8 rfl 33 _ (0, 0) _ R6_g8.out Tryd.underlying33 rfl (cells50 HL_top.out.1) ?_)
            | (refine wpList_load_row rfl 32 (.tmp 13) rfl (A + 1 + 1) rfl 32 _ (0, 0) _ R6_l.out Tryd.underlying32 rfl (cells49 HL_z.out.1) ?_)
            | (refine wpList_load_row rfl 32 (.tmp 17) rfl g2 rfl 32 _ (0, 0) _ R6_g2.out Tryd.underlying32 rfl (cells49 HL_z.out.1) ?_)
          clear hq hg hq2 hg2'
          refine (sames_any (.slice a2 n c2) (.slice a2 n c2) n n Wl Wl W6 Y6_v.out Y6_v.out HW6n.out HW6n.out).mono ?_
          rintro r w9 ⟨rfl, hb⟩
          rw [show decide (n = n ∧ Wl = Wl) = true by simp]
          go_wp2_with fail
          go_ret
          exact ⟨rfl, by rw [← HA.out]; exact B6.out.trans (hb.mono (Nat.le_of_lt P6.out.lt))⟩
    | false =>
      by_cases hcut : 20 < len6
      · go_wp2_with first
          | (refine wpList_load_row rfl 48 (.tmp 8) rfl A rfl 48 _ (0, 0) _ P2.out Tryd.underlying48 rfl (cells48 x0_0 x0_1 x0_2) ?_)
          | (refine wpList_load_row rfl 32 (.tmp 12) rfl (A + 1) rfl 32 _ (0, 0) _ R2_e.out Tryd.underlying32 rfl (cells49 HX4.out) ?_)
        refine (rshow_any x0_0 x0_1 x0_2 x1 x4 x2 x3 W2 HE.out HS.out HX4.out HB4.out).mono ?_
        rintro r w10 ⟨v', rfl, k1, k2, hb⟩
        rw [← HZQ.out.2.1, ← HZQ.out.2.2] at k1
        rw [← HZQ.out.1]
        obtain ⟨a2, c2, rfl, -⟩ := id k1
        have EY_v := Kp.mk k1
        have HFv : Kp (∀ x, a2 = some x → A + 1 + 1 < x.block) := ⟨fun x hx => by have h1 := (k2 x n c2 (by rw [hx])).1; have := R2_l.out.lt; omega⟩
        clear k1 k2
        have E0 := Kp.mk (P2.out.keep hb)
        have E_e := Kp.mk (R2_e.out.keep hb)
        have E_l := Kp.mk (R2_l.out.keep hb)
        have EY_6 := Kp.mk (Y2_6.out.keep hb)
        have EB : Kp (Below A w w10) := ⟨B2.out.trans (hb.mono (Nat.le_of_lt P2.out.lt))⟩
        clear hb P2 B2 R2_e R2_l Y2_6
        obtain ⟨g2, hB⟩ : ∃ B, B = w10.heap.size := ⟨_, rfl⟩
        have hbA : A < g2 := by rw [hB]; exact E0.out.lt
        have hbb_e : A + 1 < g2 := by rw [hB]; exact E_e.out.lt
        have hbb_l : A + 1 + 1 < g2 := by rw [hB]; exact E_l.out.lt
        obtain ⟨W3, hW⟩ : ∃ W, W = (w10.alloc z49).setRow g2 (kv .u8 z).toArray := ⟨_, rfl⟩
        have hN : Row (w10.alloc z49) g2 32 .u8 (fill 16 []) := Blk.newAt _ hB
        have P3 : Kp (Blk W3 A (.cells #[.int .i64 x0_0, .int .u32 x0_1, .int .u32 x0_2] 48)) := ⟨by rw [hW]; exact (setRow_other _ g2 A _ (by omega)).trans (Blk.old E0.out _)⟩
        have R3_e : Kp (Row W3 (A + 1) 32 .u8 x4) := ⟨by rw [hW]; exact Row.otherRow (Row.alloc E_e.out _) (by omega) _⟩
        have R3_l : Kp (Row W3 (A + 1 + 1) 32 .u8 x5) := ⟨by rw [hW]; exact Row.otherRow (Row.alloc E_l.out _) (by omega) _⟩
        have R3_g2 : Kp (Row W3 (g2) 32 .u8 z) := ⟨by rw [hW]; exact Row.setRow (k := .u8) (l := fill 16 []) hN _⟩
        have Y3_6 : Kp (HoldsS W3 (.slice a6 len6 cap6) len6 z6) := ⟨by rw [hW]; exact (HoldsS.keep EY_6.out (more (Below.refl _ _) _)).off2 (fun h0 => slice_off fun x hx => by have := EY_6.out.lt h0 x hx; omega) _⟩
        have Y3_v : Kp (HoldsS W3 (.slice a2 n c2) n Wl) := ⟨by rw [hW]; exact (HoldsS.keep EY_v.out (more (Below.refl _ _) _)).off2 (fun h0 => slice_off fun x hx => by have := EY_v.out.lt h0 x hx; omega) _⟩
        have B3 : Kp (Below A w W3) := ⟨by rw [hW]; exact Below.row (EB.out.alloc (by have := E0.out.lt; omega) _) (by omega) _⟩
        have HBe := Kp.mk hB
        have HG2x := Kp.mk hbb_l
        have hW2 : W3 = (w10.alloc z49).setRow w10.heap.size (kv .u8 z).toArray := by rw [hW, hB]
        clear hN hW hB E0 EB hbA E_e E_l hbb_e hbb_l EY_6 EY_v
        have HG2 : Kp (A + 1 + 1 < g2) := ⟨HG2x.out⟩
        clear HG2x
        have Y3_20 : Kp (HoldsS W3 (.slice a6 20 cap6) 20 (z6.take (20 * 16))) := ⟨Y3_6.out.front (by omega)⟩
        have HW6 : Kp ((z6.take (20 * 16)).length = 20 * 16 ∧ Bytes (z6.take (20 * 16))) := ⟨by obtain ⟨_, _, _, k1, _, k2, _⟩ := Y3_20.out; exact ⟨k1, k2⟩⟩
        have HW6n : Kp (20 ≤ 1000000) := ⟨by omega⟩
        have HRS : Kp (riseS x0_0 x0_1 x0_2 x1 x5 x2 x3 (z6.take (20 * 16)) 20 = fill 16 [] ∧ riseF x1 x2 x3 20 = 22) := ⟨rise_long x0_0 x0_1 x0_2 x1 x2 x3 x5 _ 20 HOK.out (by omega)⟩
        have HL_f : Kp ((fill 16 [] : List Int).length = 16 ∧ Bytes (fill 16 [])) := ⟨rfl, fill_bytes (fun x hx => by simp at hx)⟩
        obtain ⟨u, hu⟩ : ∃ u, u = (fill 16 [] : List Int) := ⟨_, rfl⟩
        rw [← hu] at HRS HL_f
        have HL_u := HL_f
        clear hu HL_f Y3_6
        go_wp2_with first
          | (refine wpList_store_row rfl 32 (.tmp 17) (.tmp 54) rfl w10.heap.size (kv .u8 z).toArray rfl rfl 32 _ (Blk.new w10 z49) (cells49 HL_z.out.1) (size50 HL_z.out.1) (kv_all _ _) ?_; refine wpl_world (· = W3) hW2.symm ?_; clear hW2; intro W0 e0; rw [e0]; clear e0; rw [← HBe.out]; clear HBe)
        obtain ⟨M3, hM⟩ : ∃ M, M = W3.heap.size := ⟨_, rfl⟩
        have hbA3 : A < M3 := by rw [hM]; exact P3.out.lt
        have hb3_e : A + 1 < M3 := by rw [hM]; exact R3_e.out.lt
        have hb3_l : A + 1 + 1 < M3 := by rw [hM]; exact R3_l.out.lt
        have hb3_g2 : g2 < M3 := by rw [hM]; exact R3_g2.out.lt
        have HM3 : Kp (M3 ≤ W3.heap.size) := ⟨Nat.le_of_eq hM⟩
        have HMs3 : Kp (W3.heap.size ≤ M3) := ⟨Nat.le_of_eq hM.symm⟩
        have HWB3_20 : Kp (0 < 20 → ∀ x, a6 = some x → x.block < M3) := ⟨fun h0 x hx => Nat.lt_of_lt_of_le (Y3_20.out.lt h0 x hx) HMs3.out⟩
        have HWB3_v : Kp (0 < n → ∀ x, a2 = some x → x.block < M3) := ⟨fun h0 x hx => Nat.lt_of_lt_of_le (Y3_v.out.lt h0 x hx) HMs3.out⟩
        clear hM
        refine wp_region_predQ (fun w' => Blk w' A (.cells #[.int .i64 x0_0, .int .u32 x0_1, .int .u32 x0_2] 48) ∧ Row w' (A + 1) 32 .u8 x4 ∧ Row w' (A + 1 + 1) 32 .u8 x5 ∧ Row w' (g2) 32 .u8 z ∧ HoldsS w' (.slice a6 20 cap6) 20 (z6.take (20 * 16)) ∧ HoldsS w' (.slice a2 n c2) n Wl ∧ M3 ≤ w'.heap.size ∧ Below A w w') [0, 1, 2, 3, 4, 5, 6, 7, 8, 9] [8] [10, 11]
          (fun ι w' v => match ι with
            | 0 | 1 => v = plV x0_0 x0_1 x0_2
            | 2 => v = .int .i64 x1
            | 3 => v = dgV x4
            | 4 => v = .int .i64 x2
            | 5 | 6 => v = .tuple #[dgV top, .int .i64 0]
            | 7 => v = dgV top
            | 8 => v = .int .i64 0
            | 9 => ∃ g, v = .pointer (some ⟨g, 0, none⟩) ∧ M3 ≤ g ∧ Row w' g 33 .u8 (fill 16 [])
            | _ => v = .bool true)
          [[], [(0, some 66)], [], [], [], [(1, some 67), (2, some 68), (3, some 69), (4, some 70)], [(5, some 71)], [(6, some 65)], [(6, some 65)], []]
          [[(6, some 65)]]
          [(0, some 66), (1, some 67), (2, some 68), (3, some 69), (4, some 70), (5, some 71), (6, some 65), (7, some 72), (8, some 73), (9, some 20)]
          (by kernel_rfl) (by kernel_rfl) (by kernel_rfl) (by kernel_rfl) (by kernel_rfl) (by kernel_rfl) (by kernel_rfl) (by decide) (by decide) (fun w1 w2 h hb => ⟨h.1.keep hb, h.2.1.keep hb, h.2.2.1.keep hb, h.2.2.2.1.keep hb, h.2.2.2.2.1.keep hb, h.2.2.2.2.2.1.keep hb, Nat.le_trans h.2.2.2.2.2.2.1 hb.size, h.2.2.2.2.2.2.2.trans (hb.mono (Nat.le_of_lt h.1.lt))⟩) (fun c a w d v h => by cases d <;> exact h) ?_ ⟨P3.out.draw, R3_e.out.drew, R3_l.out.drew, R3_g2.out.drew, Y3_20.out.drew, Y3_v.out.drew, HM3.out, B3.out.drew⟩ ?_ ?_ ?_
        · intro ι w1 w2 v h hb
          by_cases h9 : ι = 9
          · subst h9
            exact (by obtain ⟨g, e, h1, hg⟩ := h; exact ⟨g, e, h1, hg.keep hb⟩)
          match ι, h9, h with
          | 0, _, h => exact h
          | 1, _, h => exact h
          | 2, _, h => exact h
          | 3, _, h => exact h
          | 4, _, h => exact h
          | 5, _, h => exact h
          | 6, _, h => exact h
          | 7, _, h => exact h
          | 8, _, h => exact h
          | 9, g, h => exact absurd rfl g
          | _ + 10, _, h => exact h
        · refine ⟨fun γ wx hS h => ?_, fun γ wx hS h => ?_, fun γ wx hS h => ?_, fun γ wx hS h => ?_, fun γ wx hS h => ?_, fun γ wx hS h => ?_, fun γ wx hS h => ?_, fun γ wx hS h => ?_, fun γ wx hS h => ?_, fun γ wx hS h => ?_, trivial⟩
          · refine ⟨_, rfl, Or.inl ⟨rfl, predRun_value (exec_load_blk 48 (.tmp 8) rfl (A) rfl 48 _ (0, 0) _ hS.1 Tryd.underlying48 rfl (cells48 x0_0 x0_1 x0_2)) rfl⟩⟩
          · have h0 := h
            have e0 : γ 0 = plV x0_0 x0_1 x0_2 := h0
            refine ⟨_, rfl, Or.inl ⟨rfl, predRun_call (f := 32) (args := #[plV x0_0 x0_1 x0_2]) (by simp only [putE, e0]; go_simp) ?_⟩⟩
            exact (to_any x0_0 x0_1 x0_2 wx).mono fun e w2 ⟨h1, h2⟩ => ⟨_, h1, rfl, h2⟩
          · refine ⟨_, rfl, Or.inl ⟨rfl, predRun_value (v := .int .i64 x1) (by simp only [putE]; first | rfl | (go_simp; done) | (go_simp; with_reducible rfl) | (go_simp; rfl)) rfl⟩⟩
          · refine ⟨_, rfl, Or.inl ⟨rfl, predRun_value (exec_load_blk 32 (.tmp 12) rfl (A + 1) rfl 32 _ (0, 0) _ hS.2.1 Tryd.underlying32 rfl (cells49 HX4.out)) rfl⟩⟩
          · refine ⟨_, rfl, Or.inl ⟨rfl, predRun_value (v := .int .i64 x2) (by simp only [putE]; first | rfl | (go_simp; done) | (go_simp; with_reducible rfl) | (go_simp; rfl)) rfl⟩⟩
          · obtain ⟨h1, h2, h3, h4⟩ := h
            have e1 : γ 1 = plV x0_0 x0_1 x0_2 := h1
            have e2 : γ 2 = .int .i64 x1 := h2
            have e3 : γ 3 = dgV x4 := h3
            have e4 : γ 4 = .int .i64 x2 := h4
            refine ⟨_, rfl, Or.inl ⟨rfl, predRun_call (f := 31) (args := #[plV x0_0 x0_1 x0_2, .int .i64 x1, dgV x4, .int .i64 x2]) (by simp only [putE, e1, e2, e3, e4]; go_simp) ?_⟩⟩
            exact (up_any x0_0 x0_1 x0_2 x1 x4 x2 wx (HK.out.keep (by rw [← HA.out]; exact hS.2.2.2.2.2.2.2)) HE.out HS.out HX4.out HB4.out).mono fun e w2 ⟨h1, h2⟩ => ⟨_, h1, by show Value.tuple _ = Value.tuple _; rw [HR5.out.1, HR5.out.2], h2⟩
          · have h5 := h
            have e5 : γ 5 = .tuple #[dgV top, .int .i64 0] := h5
            refine ⟨_, rfl, Or.inl ⟨rfl, predRun_value (v := .tuple #[dgV top, .int .i64 0]) (by simp only [putE, e5]; first | rfl | (go_simp; done) | (go_simp; with_reducible rfl) | (go_simp; rfl)) rfl⟩⟩
          · have h6 := h
            have e6 : γ 6 = .tuple #[dgV top, .int .i64 0] := h6
            refine ⟨_, rfl, Or.inl ⟨rfl, predRun_value (v := dgV top) (by simp only [putE, e6]; first | rfl | (go_simp; done) | (go_simp; with_reducible rfl) | (go_simp; rfl)) rfl⟩⟩
          · have h6 := h
            have e6 : γ 6 = .tuple #[dgV top, .int .i64 0] := h6
            refine ⟨_, rfl, Or.inl ⟨rfl, predRun_value (v := .int .i64 0) (by simp only [putE, e6]; first | rfl | (go_simp; done) | (go_simp; with_reducible rfl) | (go_simp; rfl)) rfl⟩⟩
          · refine ⟨_, rfl, Or.inl ⟨rfl, predRun_new (w' := wx.alloc z50) (v := .pointer (some ⟨wx.heap.size, 0, none⟩)) (by simp only [putE]; first | rfl | (go_simp; done) | (go_simp; rfl)) (more (Below.refl _ _) _) ⟨_, rfl, hS.2.2.2.2.2.2.1, Blk.new _ _⟩⟩⟩
        · refine ⟨fun γ wx hS h => ?_, trivial⟩
          · have h6 := h
            have e6 : γ 6 = .tuple #[dgV top, .int .i64 0] := h6
            refine ⟨_, .int .i64 0, rfl, Or.inl ⟨rfl, fun wz => by simp only [putE, e6]; first | rfl | (go_simp; done) | (go_simp; rfl)⟩, rfl⟩
        · intro γ w9 hS h
          have ez : γ 7 = dgV top := h.2.2.2.2.2.2.2.1
          have e8 : γ 8 = .int .i64 0 := h.2.2.2.2.2.2.2.2.1
          obtain ⟨g8, ep, hMg, hg⟩ : ∃ g, γ 9 = .pointer (some ⟨g, 0, none⟩) ∧ M3 ≤ g ∧ Row w9 g 33 .u8 (fill 16 []) := h.2.2.2.2.2.2.2.2.2
          simp only [putE, Act.put, List.setIfInBounds_toArray, List.set_cons_zero, List.set_cons_succ]
          rw [ez, ep, e8]
          have HGA : Kp (Row w9 g8 33 .u8 (fill 16 [])) := ⟨hg⟩
          obtain ⟨W4, hW9⟩ : ∃ W, W = w9.setRow g8 (kv .u8 top).toArray := ⟨_, rfl⟩
          have P4 : Kp (Blk W4 A (.cells #[.int .i64 x0_0, .int .u32 x0_1, .int .u32 x0_2] 48)) := ⟨by rw [hW9]; exact (setRow_other _ g8 A _ (by omega)).trans hS.1⟩
          have R4_e : Kp (Row W4 (A + 1) 32 .u8 x4) := ⟨by rw [hW9]; exact Row.otherRow hS.2.1 (by omega) _⟩
          have R4_l : Kp (Row W4 (A + 1 + 1) 32 .u8 x5) := ⟨by rw [hW9]; exact Row.otherRow hS.2.2.1 (by omega) _⟩
          have R4_g2 : Kp (Row W4 (g2) 32 .u8 z) := ⟨by rw [hW9]; exact Row.otherRow hS.2.2.2.1 (by omega) _⟩
          have R4_g8 : Kp (Row W4 (g8) 33 .u8 top) := ⟨by rw [hW9]; exact HGA.out.setRow top⟩
          have Y4_20 : Kp (HoldsS W4 (.slice a6 20 cap6) 20 (z6.take (20 * 16))) := ⟨by rw [hW9]; exact hS.2.2.2.2.1.off2 (fun h0 => wayb_off (HWB3_20.out h0) (by omega)) _⟩
          have Y4_v : Kp (HoldsS W4 (.slice a2 n c2) n Wl) := ⟨by rw [hW9]; exact hS.2.2.2.2.2.1.off2 (fun h0 => wayb_off (HWB3_v.out h0) (by omega)) _⟩
          have B4 : Kp (Below A w W4) := ⟨by rw [hW9]; exact Below.row hS.2.2.2.2.2.2.2 (by omega) _⟩
          have HWk := Kp.mk hW9
          clear h hS ez ep hg hW9 P3 B3 HM3 HMs3 hMg hbA3 R3_e hb3_e R3_l hb3_l R3_g2 hb3_g2 e8 Y3_20 HWB3_20 Y3_v HWB3_v
          refine wpOps_step rfl rfl ?_
          refine wp_store_rowD rfl 33 (.tmp 20) (.tmp 72) rfl g8 (kv .u8 top).toArray rfl rfl 33 _ HGA.out (cells50 HL_top.out.1) (size50 HL_top.out.1) (kv_all _ _) ?_
          rw [← HWk.out]
          clear HWk HGA
          refine wpOps_step rfl rfl ?_
          refine wp_assign_endD (d := some 21) (v := .int .i64 0) rfl rfl rfl ?_
          simp only [Act.put, List.setIfInBounds_toArray, List.set_cons_zero, List.set_cons_succ]
          refine wpOps_done ?_
          obtain ⟨M4, hM⟩ : ∃ M, M = W4.heap.size := ⟨_, rfl⟩
          have hbA4 : A < M4 := by rw [hM]; exact P4.out.lt
          have hb4_e : A + 1 < M4 := by rw [hM]; exact R4_e.out.lt
          have hb4_l : A + 1 + 1 < M4 := by rw [hM]; exact R4_l.out.lt
          have hb4_g2 : g2 < M4 := by rw [hM]; exact R4_g2.out.lt
          have hb4_g8 : g8 < M4 := by rw [hM]; exact R4_g8.out.lt
          have HM4 : Kp (M4 ≤ W4.heap.size) := ⟨Nat.le_of_eq hM⟩
          have HMs4 : Kp (W4.heap.size ≤ M4) := ⟨Nat.le_of_eq hM.symm⟩
          have HWB4_20 : Kp (0 < 20 → ∀ x, a6 = some x → x.block < M4) := ⟨fun h0 x hx => Nat.lt_of_lt_of_le (Y4_20.out.lt h0 x hx) HMs4.out⟩
          have HWB4_v : Kp (0 < n → ∀ x, a2 = some x → x.block < M4) := ⟨fun h0 x hx => Nat.lt_of_lt_of_le (Y4_v.out.lt h0 x hx) HMs4.out⟩
          clear hM
          go_wp2_with fail
          refine wp_region_predQ (fun w' => Blk w' A (.cells #[.int .i64 x0_0, .int .u32 x0_1, .int .u32 x0_2] 48) ∧ Row w' (A + 1) 32 .u8 x4 ∧ Row w' (A + 1 + 1) 32 .u8 x5 ∧ Row w' (g2) 32 .u8 z ∧ Row w' (g8) 33 .u8 top ∧ HoldsS w' (.slice a6 20 cap6) 20 (z6.take (20 * 16)) ∧ HoldsS w' (.slice a2 n c2) n Wl ∧ M4 ≤ w'.heap.size ∧ Below A w w') [0, 1, 2, 3, 4, 5, 6, 7, 8, 9, 10, 11, 12] [11] [13, 14]
            (fun ι w' v => match ι with
              | 0 | 1 => v = plV x0_0 x0_1 x0_2
              | 2 => v = .int .i64 x1
              | 3 => v = .int .i64 x2
              | 4 => v = .int .i64 x3
              | 5 => v = dgV x5
              | 6 => v = .slice a6 20 cap6
              | 8 | 9 => v = .tuple #[dgV u, .int .i64 22]
              | 10 => v = dgV u
              | 11 => v = .int .i64 22
              | 7 => HoldsS w' v 20 (z6.take (20 * 16))
              | 12 => ∃ g, v = .pointer (some ⟨g, 0, none⟩) ∧ M4 ≤ g ∧ Row w' g 33 .u8 (fill 16 [])
              | _ => v = .bool true)
            [[], [(0, some 75)], [], [], [], [], [], [(1, some 76), (6, some 81)], [(1, some 76), (2, some 77), (3, some 78), (4, some 79), (5, some 80), (7, some 82)], [(8, some 83)], [(9, some 74)], [(9, some 74)], []]
            [[(9, some 74)]]
            [(0, some 75), (1, some 76), (2, some 77), (3, some 78), (4, some 79), (5, some 80), (6, some 81), (7, some 82), (8, some 83), (9, some 74), (10, some 84), (11, some 85), (12, some 22)]
            (by kernel_rfl) (by kernel_rfl) (by kernel_rfl) (by kernel_rfl) (by kernel_rfl) (by kernel_rfl) (by kernel_rfl) (by decide) (by decide) (fun w1 w2 h hb => ⟨h.1.keep hb, h.2.1.keep hb, h.2.2.1.keep hb, h.2.2.2.1.keep hb, h.2.2.2.2.1.keep hb, h.2.2.2.2.2.1.keep hb, h.2.2.2.2.2.2.1.keep hb, Nat.le_trans h.2.2.2.2.2.2.2.1 hb.size, h.2.2.2.2.2.2.2.2.trans (hb.mono (Nat.le_of_lt h.1.lt))⟩) (fun c a w d v h => by cases d <;> exact h) ?_ ⟨P4.out.draw, R4_e.out.drew, R4_l.out.drew, R4_g2.out.drew, R4_g8.out.drew, Y4_20.out.drew, Y4_v.out.drew, HM4.out, B4.out.drew⟩ ?_ ?_ ?_
          · intro ι w1 w2 v h hb
            by_cases h7 : ι = 7
            · subst h7
              exact HoldsS.keep h hb
            by_cases h12 : ι = 12
            · subst h12
              exact (by obtain ⟨g, e, h1, hg⟩ := h; exact ⟨g, e, h1, hg.keep hb⟩)
            match ι, h7, h12, h with
            | 0, _, _, h => exact h
            | 1, _, _, h => exact h
            | 2, _, _, h => exact h
            | 3, _, _, h => exact h
            | 4, _, _, h => exact h
            | 5, _, _, h => exact h
            | 6, _, _, h => exact h
            | 7, g, _, h => exact absurd rfl g
            | 8, _, _, h => exact h
            | 9, _, _, h => exact h
            | 10, _, _, h => exact h
            | 11, _, _, h => exact h
            | 12, _, g, h => exact absurd rfl g
            | _ + 13, _, _, h => exact h
          · refine ⟨fun γ wx hS h => ?_, fun γ wx hS h => ?_, fun γ wx hS h => ?_, fun γ wx hS h => ?_, fun γ wx hS h => ?_, fun γ wx hS h => ?_, fun γ wx hS h => ?_, fun γ wx hS h => ?_, fun γ wx hS h => ?_, fun γ wx hS h => ?_, fun γ wx hS h => ?_, fun γ wx hS h => ?_, fun γ wx hS h => ?_, trivial⟩
            · refine ⟨_, rfl, Or.inl ⟨rfl, predRun_value (exec_load_blk 48 (.tmp 8) rfl (A) rfl 48 _ (0, 0) _ hS.1 Tryd.underlying48 rfl (cells48 x0_0 x0_1 x0_2)) rfl⟩⟩
            · have h0 := h
              have e0 : γ 0 = plV x0_0 x0_1 x0_2 := h0
              refine ⟨_, rfl, Or.inl ⟨rfl, predRun_call (f := 32) (args := #[plV x0_0 x0_1 x0_2]) (by simp only [putE, e0]; go_simp) ?_⟩⟩
              exact (to_any x0_0 x0_1 x0_2 wx).mono fun e w2 ⟨h1, h2⟩ => ⟨_, h1, rfl, h2⟩
            · refine ⟨_, rfl, Or.inl ⟨rfl, predRun_value (v := .int .i64 x1) (by simp only [putE]; first | rfl | (go_simp; done) | (go_simp; with_reducible rfl) | (go_simp; rfl)) rfl⟩⟩
            · refine ⟨_, rfl, Or.inl ⟨rfl, predRun_value (v := .int .i64 x2) (by simp only [putE]; first | rfl | (go_simp; done) | (go_simp; with_reducible rfl) | (go_simp; rfl)) rfl⟩⟩
            · refine ⟨_, rfl, Or.inl ⟨rfl, predRun_value (v := .int .i64 x3) (by simp only [putE]; first | rfl | (go_simp; done) | (go_simp; with_reducible rfl) | (go_simp; rfl)) rfl⟩⟩
            · refine ⟨_, rfl, Or.inl ⟨rfl, predRun_value (exec_load_blk 32 (.tmp 13) rfl (A + 1 + 1) rfl 32 _ (0, 0) _ hS.2.2.1 Tryd.underlying32 rfl (cells49 (And.intro HX5.out HB5.out).1)) rfl⟩⟩
            · refine ⟨_, rfl, Or.inl ⟨rfl, predRun_value (v := .slice a6 20 cap6) (by simp only [putE]; first | rfl | (go_simp; done) | (go_simp; with_reducible rfl) | (go_simp; rfl)) rfl⟩⟩
            · obtain ⟨h1, h6⟩ := h
              have e1 : γ 1 = plV x0_0 x0_1 x0_2 := h1
              have e6 : γ 6 = .slice a6 20 cap6 := h6
              refine ⟨_, rfl, Or.inl ⟨rfl, predRun_call (f := 47) (args := #[.slice a6 20 cap6]) (by simp only [putE, e1, e6]; go_simp) ?_⟩⟩
              refine (toS_any _ 20 (z6.take (20 * 16)) wx hS.2.2.2.2.2.1 HW6n.out).mono ?_
              rintro e w2 ⟨v', h1, h2, h3⟩
              exact ⟨v', h1, HoldsS.ofRow HW6.out.2 (by have := HW6n.out; unfold maxLen; omega) HW6.out.1 h2, h3⟩
            · obtain ⟨h1, h2, h3, h4, h5, h7⟩ := h
              have e1 : γ 1 = plV x0_0 x0_1 x0_2 := h1
              have e2 : γ 2 = .int .i64 x1 := h2
              have e3 : γ 3 = .int .i64 x2 := h3
              have e4 : γ 4 = .int .i64 x3 := h4
              have e5 : γ 5 = dgV x5 := h5
              have p7 : HoldsS wx (γ 7) 20 (z6.take (20 * 16)) := h7
              obtain ⟨a7, c7, e7, -⟩ := id p7
              refine ⟨_, rfl, Or.inl ⟨rfl, predRun_call (f := 46) (args := #[plV x0_0 x0_1 x0_2, .int .i64 x1, .int .i64 x2, .int .i64 x3, dgV x5, .slice a7 20 c7]) (by simp only [putE, e1, e2, e3, e4, e5, e7]; go_simp) ?_⟩⟩
              rw [e7] at p7
              exact (rise_any x0_0 x0_1 x0_2 x1 x2 x3 x5 a7 20 c7 (z6.take (20 * 16)) wx (HK.out.keep (by rw [← HA.out]; exact hS.2.2.2.2.2.2.2.2)) HE.out HS.out (And.intro HX5.out HB5.out).1 (And.intro HX5.out HB5.out).2 p7).mono fun e w2 ⟨h1, h2⟩ => ⟨_, h1, by show Value.tuple _ = Value.tuple _; rw [HRS.out.1, HRS.out.2], h2⟩
            · have h8 := h
              have e8 : γ 8 = .tuple #[dgV u, .int .i64 22] := h8
              refine ⟨_, rfl, Or.inl ⟨rfl, predRun_value (v := .tuple #[dgV u, .int .i64 22]) (by simp only [putE, e8]; first | rfl | (go_simp; done) | (go_simp; with_reducible rfl) | (go_simp; rfl)) rfl⟩⟩
            · have h9 := h
              have e9 : γ 9 = .tuple #[dgV u, .int .i64 22] := h9
              refine ⟨_, rfl, Or.inl ⟨rfl, predRun_value (v := dgV u) (by simp only [putE, e9]; first | rfl | (go_simp; done) | (go_simp; with_reducible rfl) | (go_simp; rfl)) rfl⟩⟩
            · have h9 := h
              have e9 : γ 9 = .tuple #[dgV u, .int .i64 22] := h9
              refine ⟨_, rfl, Or.inl ⟨rfl, predRun_value (v := .int .i64 22) (by simp only [putE, e9]; first | rfl | (go_simp; done) | (go_simp; with_reducible rfl) | (go_simp; rfl)) rfl⟩⟩
            · refine ⟨_, rfl, Or.inl ⟨rfl, predRun_new (w' := wx.alloc z50) (v := .pointer (some ⟨wx.heap.size, 0, none⟩)) (by simp only [putE]; first | rfl | (go_simp; done) | (go_simp; rfl)) (more (Below.refl _ _) _) ⟨_, rfl, hS.2.2.2.2.2.2.2.1, Blk.new _ _⟩⟩⟩
          · refine ⟨fun γ wx hS h => ?_, trivial⟩
            · have h9 := h
              have e9 : γ 9 = .tuple #[dgV u, .int .i64 22] := h9
              refine ⟨_, .int .i64 22, rfl, Or.inl ⟨rfl, fun wz => by simp only [putE, e9]; first | rfl | (go_simp; done) | (go_simp; rfl)⟩, rfl⟩
          · intro γ w9 hS h
            have ez : γ 10 = dgV u := h.2.2.2.2.2.2.2.2.2.2.1
            have e11 : γ 11 = .int .i64 22 := h.2.2.2.2.2.2.2.2.2.2.2.1
            obtain ⟨g9, ep, hMg, hg⟩ : ∃ g, γ 12 = .pointer (some ⟨g, 0, none⟩) ∧ M4 ≤ g ∧ Row w9 g 33 .u8 (fill 16 []) := h.2.2.2.2.2.2.2.2.2.2.2.2
            simp only [putE, Act.put, List.setIfInBounds_toArray, List.set_cons_zero, List.set_cons_succ]
            rw [ez, ep, e11]
            have HGA : Kp (Row w9 g9 33 .u8 (fill 16 [])) := ⟨hg⟩
            obtain ⟨W5, hW9⟩ : ∃ W, W = w9.setRow g9 (kv .u8 u).toArray := ⟨_, rfl⟩
            have P5 : Kp (Blk W5 A (.cells #[.int .i64 x0_0, .int .u32 x0_1, .int .u32 x0_2] 48)) := ⟨by rw [hW9]; exact (setRow_other _ g9 A _ (by omega)).trans hS.1⟩
            have R5_e : Kp (Row W5 (A + 1) 32 .u8 x4) := ⟨by rw [hW9]; exact Row.otherRow hS.2.1 (by omega) _⟩
            have R5_l : Kp (Row W5 (A + 1 + 1) 32 .u8 x5) := ⟨by rw [hW9]; exact Row.otherRow hS.2.2.1 (by omega) _⟩
            have R5_g2 : Kp (Row W5 (g2) 32 .u8 z) := ⟨by rw [hW9]; exact Row.otherRow hS.2.2.2.1 (by omega) _⟩
            have R5_g8 : Kp (Row W5 (g8) 33 .u8 top) := ⟨by rw [hW9]; exact Row.otherRow hS.2.2.2.2.1 (by omega) _⟩
            have R5_g9 : Kp (Row W5 (g9) 33 .u8 u) := ⟨by rw [hW9]; exact HGA.out.setRow u⟩
            have Y5_20 : Kp (HoldsS W5 (.slice a6 20 cap6) 20 (z6.take (20 * 16))) := ⟨by rw [hW9]; exact hS.2.2.2.2.2.1.off2 (fun h0 => wayb_off (HWB4_20.out h0) (by omega)) _⟩
            have Y5_v : Kp (HoldsS W5 (.slice a2 n c2) n Wl) := ⟨by rw [hW9]; exact hS.2.2.2.2.2.2.1.off2 (fun h0 => wayb_off (HWB4_v.out h0) (by omega)) _⟩
            have B5 : Kp (Below A w W5) := ⟨by rw [hW9]; exact Below.row hS.2.2.2.2.2.2.2.2 (by omega) _⟩
            have HWk := Kp.mk hW9
            clear h hS ez ep hg hW9 P4 B4 HM4 HMs4 hMg hbA4 R4_e hb4_e R4_l hb4_l R4_g2 hb4_g2 R4_g8 hb4_g8 e11 Y4_20 HWB4_20 Y4_v HWB4_v
            refine wpOps_step rfl rfl ?_
            refine wp_store_rowD rfl 33 (.tmp 22) (.tmp 84) rfl g9 (kv .u8 u).toArray rfl rfl 33 _ HGA.out (cells50 HL_u.out.1) (size50 HL_u.out.1) (kv_all _ _) ?_
            rw [← HWk.out]
            clear HWk HGA
            refine wpOps_step rfl rfl ?_
            refine wp_assign_endD (d := some 23) (v := .int .i64 22) rfl rfl rfl ?_
            simp only [Act.put, List.setIfInBounds_toArray, List.set_cons_zero, List.set_cons_succ]
            refine wpOps_done ?_
            go_wp2_with fail
            go_ret
            exact ⟨rfl, by rw [← HA.out]; exact B5.out⟩
      · go_wp2_with first
          | (refine wpList_load_row rfl 48 (.tmp 8) rfl A rfl 48 _ (0, 0) _ P2.out Tryd.underlying48 rfl (cells48 x0_0 x0_1 x0_2) ?_)
          | (refine wpList_load_row rfl 32 (.tmp 12) rfl (A + 1) rfl 32 _ (0, 0) _ R2_e.out Tryd.underlying32 rfl (cells49 HX4.out) ?_)
        refine (rshow_any x0_0 x0_1 x0_2 x1 x4 x2 x3 W2 HE.out HS.out HX4.out HB4.out).mono ?_
        rintro r w10 ⟨v', rfl, k1, k2, hb⟩
        rw [← HZQ.out.2.1, ← HZQ.out.2.2] at k1
        rw [← HZQ.out.1]
        obtain ⟨a2, c2, rfl, -⟩ := id k1
        have EY_v := Kp.mk k1
        have HFv : Kp (∀ x, a2 = some x → A + 1 + 1 < x.block) := ⟨fun x hx => by have h1 := (k2 x n c2 (by rw [hx])).1; have := R2_l.out.lt; omega⟩
        clear k1 k2
        have E0 := Kp.mk (P2.out.keep hb)
        have E_e := Kp.mk (R2_e.out.keep hb)
        have E_l := Kp.mk (R2_l.out.keep hb)
        have EY_6 := Kp.mk (Y2_6.out.keep hb)
        have EB : Kp (Below A w w10) := ⟨B2.out.trans (hb.mono (Nat.le_of_lt P2.out.lt))⟩
        clear hb P2 B2 R2_e R2_l Y2_6
        obtain ⟨g2, hB⟩ : ∃ B, B = w10.heap.size := ⟨_, rfl⟩
        have hbA : A < g2 := by rw [hB]; exact E0.out.lt
        have hbb_e : A + 1 < g2 := by rw [hB]; exact E_e.out.lt
        have hbb_l : A + 1 + 1 < g2 := by rw [hB]; exact E_l.out.lt
        obtain ⟨W3, hW⟩ : ∃ W, W = (w10.alloc z49).setRow g2 (kv .u8 z).toArray := ⟨_, rfl⟩
        have hN : Row (w10.alloc z49) g2 32 .u8 (fill 16 []) := Blk.newAt _ hB
        have P3 : Kp (Blk W3 A (.cells #[.int .i64 x0_0, .int .u32 x0_1, .int .u32 x0_2] 48)) := ⟨by rw [hW]; exact (setRow_other _ g2 A _ (by omega)).trans (Blk.old E0.out _)⟩
        have R3_e : Kp (Row W3 (A + 1) 32 .u8 x4) := ⟨by rw [hW]; exact Row.otherRow (Row.alloc E_e.out _) (by omega) _⟩
        have R3_l : Kp (Row W3 (A + 1 + 1) 32 .u8 x5) := ⟨by rw [hW]; exact Row.otherRow (Row.alloc E_l.out _) (by omega) _⟩
        have R3_g2 : Kp (Row W3 (g2) 32 .u8 z) := ⟨by rw [hW]; exact Row.setRow (k := .u8) (l := fill 16 []) hN _⟩
        have Y3_6 : Kp (HoldsS W3 (.slice a6 len6 cap6) len6 z6) := ⟨by rw [hW]; exact (HoldsS.keep EY_6.out (more (Below.refl _ _) _)).off2 (fun h0 => slice_off fun x hx => by have := EY_6.out.lt h0 x hx; omega) _⟩
        have Y3_v : Kp (HoldsS W3 (.slice a2 n c2) n Wl) := ⟨by rw [hW]; exact (HoldsS.keep EY_v.out (more (Below.refl _ _) _)).off2 (fun h0 => slice_off fun x hx => by have := EY_v.out.lt h0 x hx; omega) _⟩
        have B3 : Kp (Below A w W3) := ⟨by rw [hW]; exact Below.row (EB.out.alloc (by have := E0.out.lt; omega) _) (by omega) _⟩
        have HBe := Kp.mk hB
        have HG2x := Kp.mk hbb_l
        have hW2 : W3 = (w10.alloc z49).setRow w10.heap.size (kv .u8 z).toArray := by rw [hW, hB]
        clear hN hW hB E0 EB hbA E_e E_l hbb_e hbb_l EY_6 EY_v
        have HG2 : Kp (A + 1 + 1 < g2) := ⟨HG2x.out⟩
        clear HG2x
        have HW6 : Kp (z6.length = len6 * 16 ∧ Bytes z6) := ⟨by obtain ⟨_, _, _, k1, _, k2, _⟩ := Y3_6.out; exact ⟨k1, k2⟩⟩
        have HW6n : Kp (len6 ≤ 1000000) := ⟨by omega⟩
        obtain ⟨u, hu⟩ : ∃ u, u = riseS x0_0 x0_1 x0_2 x1 x5 x2 x3 z6 len6 := ⟨_, rfl⟩
        obtain ⟨q9, hq9⟩ : ∃ q, q = riseF x1 x2 x3 len6 := ⟨_, rfl⟩
        have HRS : Kp (riseS x0_0 x0_1 x0_2 x1 x5 x2 x3 z6 len6 = u ∧ riseF x1 x2 x3 len6 = q9) := ⟨hu.symm, hq9.symm⟩
        have HL_u : Kp (u.length = 16 ∧ Bytes u) := ⟨by rw [hu]; exact ⟨riseS_len _ _ _ _ _ _ _ _ _ HX5.out, riseS_bytes _ _ _ _ _ _ _ _ _ HB5.out⟩⟩
        clear hu hq9
        go_wp2_with first
          | (refine wpList_store_row rfl 32 (.tmp 17) (.tmp 54) rfl w10.heap.size (kv .u8 z).toArray rfl rfl 32 _ (Blk.new w10 z49) (cells49 HL_z.out.1) (size50 HL_z.out.1) (kv_all _ _) ?_; refine wpl_world (· = W3) hW2.symm ?_; clear hW2; intro W0 e0; rw [e0]; clear e0; rw [← HBe.out]; clear HBe)
        obtain ⟨M3, hM⟩ : ∃ M, M = W3.heap.size := ⟨_, rfl⟩
        have hbA3 : A < M3 := by rw [hM]; exact P3.out.lt
        have hb3_e : A + 1 < M3 := by rw [hM]; exact R3_e.out.lt
        have hb3_l : A + 1 + 1 < M3 := by rw [hM]; exact R3_l.out.lt
        have hb3_g2 : g2 < M3 := by rw [hM]; exact R3_g2.out.lt
        have HM3 : Kp (M3 ≤ W3.heap.size) := ⟨Nat.le_of_eq hM⟩
        have HMs3 : Kp (W3.heap.size ≤ M3) := ⟨Nat.le_of_eq hM.symm⟩
        have HWB3_6 : Kp (0 < len6 → ∀ x, a6 = some x → x.block < M3) := ⟨fun h0 x hx => Nat.lt_of_lt_of_le (Y3_6.out.lt h0 x hx) HMs3.out⟩
        have HWB3_v : Kp (0 < n → ∀ x, a2 = some x → x.block < M3) := ⟨fun h0 x hx => Nat.lt_of_lt_of_le (Y3_v.out.lt h0 x hx) HMs3.out⟩
        clear hM
        refine wp_region_predQ (fun w' => Blk w' A (.cells #[.int .i64 x0_0, .int .u32 x0_1, .int .u32 x0_2] 48) ∧ Row w' (A + 1) 32 .u8 x4 ∧ Row w' (A + 1 + 1) 32 .u8 x5 ∧ Row w' (g2) 32 .u8 z ∧ HoldsS w' (.slice a6 len6 cap6) len6 z6 ∧ HoldsS w' (.slice a2 n c2) n Wl ∧ M3 ≤ w'.heap.size ∧ Below A w w') [0, 1, 2, 3, 4, 5, 6, 7, 8, 9] [8] [10, 11]
          (fun ι w' v => match ι with
            | 0 | 1 => v = plV x0_0 x0_1 x0_2
            | 2 => v = .int .i64 x1
            | 3 => v = dgV x4
            | 4 => v = .int .i64 x2
            | 5 | 6 => v = .tuple #[dgV top, .int .i64 0]
            | 7 => v = dgV top
            | 8 => v = .int .i64 0
            | 9 => ∃ g, v = .pointer (some ⟨g, 0, none⟩) ∧ M3 ≤ g ∧ Row w' g 33 .u8 (fill 16 [])
            | _ => v = .bool true)
          [[], [(0, some 66)], [], [], [], [(1, some 67), (2, some 68), (3, some 69), (4, some 70)], [(5, some 71)], [(6, some 65)], [(6, some 65)], []]
          [[(6, some 65)]]
          [(0, some 66), (1, some 67), (2, some 68), (3, some 69), (4, some 70), (5, some 71), (6, some 65), (7, some 72), (8, some 73), (9, some 20)]
          (by kernel_rfl) (by kernel_rfl) (by kernel_rfl) (by kernel_rfl) (by kernel_rfl) (by kernel_rfl) (by kernel_rfl) (by decide) (by decide) (fun w1 w2 h hb => ⟨h.1.keep hb, h.2.1.keep hb, h.2.2.1.keep hb, h.2.2.2.1.keep hb, h.2.2.2.2.1.keep hb, h.2.2.2.2.2.1.keep hb, Nat.le_trans h.2.2.2.2.2.2.1 hb.size, h.2.2.2.2.2.2.2.trans (hb.mono (Nat.le_of_lt h.1.lt))⟩) (fun c a w d v h => by cases d <;> exact h) ?_ ⟨P3.out.draw, R3_e.out.drew, R3_l.out.drew, R3_g2.out.drew, Y3_6.out.drew, Y3_v.out.drew, HM3.out, B3.out.drew⟩ ?_ ?_ ?_
        · intro ι w1 w2 v h hb
          by_cases h9 : ι = 9
          · subst h9
            exact (by obtain ⟨g, e, h1, hg⟩ := h; exact ⟨g, e, h1, hg.keep hb⟩)
          match ι, h9, h with
          | 0, _, h => exact h
          | 1, _, h => exact h
          | 2, _, h => exact h
          | 3, _, h => exact h
          | 4, _, h => exact h
          | 5, _, h => exact h
          | 6, _, h => exact h
          | 7, _, h => exact h
          | 8, _, h => exact h
          | 9, g, h => exact absurd rfl g
          | _ + 10, _, h => exact h
        · refine ⟨fun γ wx hS h => ?_, fun γ wx hS h => ?_, fun γ wx hS h => ?_, fun γ wx hS h => ?_, fun γ wx hS h => ?_, fun γ wx hS h => ?_, fun γ wx hS h => ?_, fun γ wx hS h => ?_, fun γ wx hS h => ?_, fun γ wx hS h => ?_, trivial⟩
          · refine ⟨_, rfl, Or.inl ⟨rfl, predRun_value (exec_load_blk 48 (.tmp 8) rfl (A) rfl 48 _ (0, 0) _ hS.1 Tryd.underlying48 rfl (cells48 x0_0 x0_1 x0_2)) rfl⟩⟩
          · have h0 := h
            have e0 : γ 0 = plV x0_0 x0_1 x0_2 := h0
            refine ⟨_, rfl, Or.inl ⟨rfl, predRun_call (f := 32) (args := #[plV x0_0 x0_1 x0_2]) (by simp only [putE, e0]; go_simp) ?_⟩⟩
            exact (to_any x0_0 x0_1 x0_2 wx).mono fun e w2 ⟨h1, h2⟩ => ⟨_, h1, rfl, h2⟩
          · refine ⟨_, rfl, Or.inl ⟨rfl, predRun_value (v := .int .i64 x1) (by simp only [putE]; first | rfl | (go_simp; done) | (go_simp; with_reducible rfl) | (go_simp; rfl)) rfl⟩⟩
          · refine ⟨_, rfl, Or.inl ⟨rfl, predRun_value (exec_load_blk 32 (.tmp 12) rfl (A + 1) rfl 32 _ (0, 0) _ hS.2.1 Tryd.underlying32 rfl (cells49 HX4.out)) rfl⟩⟩
          · refine ⟨_, rfl, Or.inl ⟨rfl, predRun_value (v := .int .i64 x2) (by simp only [putE]; first | rfl | (go_simp; done) | (go_simp; with_reducible rfl) | (go_simp; rfl)) rfl⟩⟩
          · obtain ⟨h1, h2, h3, h4⟩ := h
            have e1 : γ 1 = plV x0_0 x0_1 x0_2 := h1
            have e2 : γ 2 = .int .i64 x1 := h2
            have e3 : γ 3 = dgV x4 := h3
            have e4 : γ 4 = .int .i64 x2 := h4
            refine ⟨_, rfl, Or.inl ⟨rfl, predRun_call (f := 31) (args := #[plV x0_0 x0_1 x0_2, .int .i64 x1, dgV x4, .int .i64 x2]) (by simp only [putE, e1, e2, e3, e4]; go_simp) ?_⟩⟩
            exact (up_any x0_0 x0_1 x0_2 x1 x4 x2 wx (HK.out.keep (by rw [← HA.out]; exact hS.2.2.2.2.2.2.2)) HE.out HS.out HX4.out HB4.out).mono fun e w2 ⟨h1, h2⟩ => ⟨_, h1, by show Value.tuple _ = Value.tuple _; rw [HR5.out.1, HR5.out.2], h2⟩
          · have h5 := h
            have e5 : γ 5 = .tuple #[dgV top, .int .i64 0] := h5
            refine ⟨_, rfl, Or.inl ⟨rfl, predRun_value (v := .tuple #[dgV top, .int .i64 0]) (by simp only [putE, e5]; first | rfl | (go_simp; done) | (go_simp; with_reducible rfl) | (go_simp; rfl)) rfl⟩⟩
          · have h6 := h
            have e6 : γ 6 = .tuple #[dgV top, .int .i64 0] := h6
            refine ⟨_, rfl, Or.inl ⟨rfl, predRun_value (v := dgV top) (by simp only [putE, e6]; first | rfl | (go_simp; done) | (go_simp; with_reducible rfl) | (go_simp; rfl)) rfl⟩⟩
          · have h6 := h
            have e6 : γ 6 = .tuple #[dgV top, .int .i64 0] := h6
            refine ⟨_, rfl, Or.inl ⟨rfl, predRun_value (v := .int .i64 0) (by simp only [putE, e6]; first | rfl | (go_simp; done) | (go_simp; with_reducible rfl) | (go_simp; rfl)) rfl⟩⟩
          · refine ⟨_, rfl, Or.inl ⟨rfl, predRun_new (w' := wx.alloc z50) (v := .pointer (some ⟨wx.heap.size, 0, none⟩)) (by simp only [putE]; first | rfl | (go_simp; done) | (go_simp; rfl)) (more (Below.refl _ _) _) ⟨_, rfl, hS.2.2.2.2.2.2.1, Blk.new _ _⟩⟩⟩
        · refine ⟨fun γ wx hS h => ?_, trivial⟩
          · have h6 := h
            have e6 : γ 6 = .tuple #[dgV top, .int .i64 0] := h6
            refine ⟨_, .int .i64 0, rfl, Or.inl ⟨rfl, fun wz => by simp only [putE, e6]; first | rfl | (go_simp; done) | (go_simp; rfl)⟩, rfl⟩
        · intro γ w9 hS h
          have ez : γ 7 = dgV top := h.2.2.2.2.2.2.2.1
          have e8 : γ 8 = .int .i64 0 := h.2.2.2.2.2.2.2.2.1
          obtain ⟨g8, ep, hMg, hg⟩ : ∃ g, γ 9 = .pointer (some ⟨g, 0, none⟩) ∧ M3 ≤ g ∧ Row w9 g 33 .u8 (fill 16 []) := h.2.2.2.2.2.2.2.2.2
          simp only [putE, Act.put, List.setIfInBounds_toArray, List.set_cons_zero, List.set_cons_succ]
          rw [ez, ep, e8]
          have HGA : Kp (Row w9 g8 33 .u8 (fill 16 [])) := ⟨hg⟩
          obtain ⟨W4, hW9⟩ : ∃ W, W = w9.setRow g8 (kv .u8 top).toArray := ⟨_, rfl⟩
          have P4 : Kp (Blk W4 A (.cells #[.int .i64 x0_0, .int .u32 x0_1, .int .u32 x0_2] 48)) := ⟨by rw [hW9]; exact (setRow_other _ g8 A _ (by omega)).trans hS.1⟩
          have R4_e : Kp (Row W4 (A + 1) 32 .u8 x4) := ⟨by rw [hW9]; exact Row.otherRow hS.2.1 (by omega) _⟩
          have R4_l : Kp (Row W4 (A + 1 + 1) 32 .u8 x5) := ⟨by rw [hW9]; exact Row.otherRow hS.2.2.1 (by omega) _⟩
          have R4_g2 : Kp (Row W4 (g2) 32 .u8 z) := ⟨by rw [hW9]; exact Row.otherRow hS.2.2.2.1 (by omega) _⟩
          have R4_g8 : Kp (Row W4 (g8) 33 .u8 top) := ⟨by rw [hW9]; exact HGA.out.setRow top⟩
          have Y4_6 : Kp (HoldsS W4 (.slice a6 len6 cap6) len6 z6) := ⟨by rw [hW9]; exact hS.2.2.2.2.1.off2 (fun h0 => wayb_off (HWB3_6.out h0) (by omega)) _⟩
          have Y4_v : Kp (HoldsS W4 (.slice a2 n c2) n Wl) := ⟨by rw [hW9]; exact hS.2.2.2.2.2.1.off2 (fun h0 => wayb_off (HWB3_v.out h0) (by omega)) _⟩
          have B4 : Kp (Below A w W4) := ⟨by rw [hW9]; exact Below.row hS.2.2.2.2.2.2.2 (by omega) _⟩
          have HWk := Kp.mk hW9
          clear h hS ez ep hg hW9 P3 B3 HM3 HMs3 hMg hbA3 R3_e hb3_e R3_l hb3_l R3_g2 hb3_g2 e8 Y3_6 HWB3_6 Y3_v HWB3_v
          refine wpOps_step rfl rfl ?_
          refine wp_store_rowD rfl 33 (.tmp 20) (.tmp 72) rfl g8 (kv .u8 top).toArray rfl rfl 33 _ HGA.out (cells50 HL_top.out.1) (size50 HL_top.out.1) (kv_all _ _) ?_
          rw [← HWk.out]
          clear HWk HGA
          refine wpOps_step rfl rfl ?_
          refine wp_assign_endD (d := some 21) (v := .int .i64 0) rfl rfl rfl ?_
          simp only [Act.put, List.setIfInBounds_toArray, List.set_cons_zero, List.set_cons_succ]
          refine wpOps_done ?_
          obtain ⟨M4, hM⟩ : ∃ M, M = W4.heap.size := ⟨_, rfl⟩
          have hbA4 : A < M4 := by rw [hM]; exact P4.out.lt
          have hb4_e : A + 1 < M4 := by rw [hM]; exact R4_e.out.lt
          have hb4_l : A + 1 + 1 < M4 := by rw [hM]; exact R4_l.out.lt
          have hb4_g2 : g2 < M4 := by rw [hM]; exact R4_g2.out.lt
          have hb4_g8 : g8 < M4 := by rw [hM]; exact R4_g8.out.lt
          have HM4 : Kp (M4 ≤ W4.heap.size) := ⟨Nat.le_of_eq hM⟩
          have HMs4 : Kp (W4.heap.size ≤ M4) := ⟨Nat.le_of_eq hM.symm⟩
          have HWB4_6 : Kp (0 < len6 → ∀ x, a6 = some x → x.block < M4) := ⟨fun h0 x hx => Nat.lt_of_lt_of_le (Y4_6.out.lt h0 x hx) HMs4.out⟩
          have HWB4_v : Kp (0 < n → ∀ x, a2 = some x → x.block < M4) := ⟨fun h0 x hx => Nat.lt_of_lt_of_le (Y4_v.out.lt h0 x hx) HMs4.out⟩
          clear hM
          go_wp2_with fail
          refine wp_region_predQ (fun w' => Blk w' A (.cells #[.int .i64 x0_0, .int .u32 x0_1, .int .u32 x0_2] 48) ∧ Row w' (A + 1) 32 .u8 x4 ∧ Row w' (A + 1 + 1) 32 .u8 x5 ∧ Row w' (g2) 32 .u8 z ∧ Row w' (g8) 33 .u8 top ∧ HoldsS w' (.slice a6 len6 cap6) len6 z6 ∧ HoldsS w' (.slice a2 n c2) n Wl ∧ M4 ≤ w'.heap.size ∧ Below A w w') [0, 1, 2, 3, 4, 5, 6, 7, 8, 9, 10, 11, 12] [11] [13, 14]
            (fun ι w' v => match ι with
              | 0 | 1 => v = plV x0_0 x0_1 x0_2
              | 2 => v = .int .i64 x1
              | 3 => v = .int .i64 x2
              | 4 => v = .int .i64 x3
              | 5 => v = dgV x5
              | 6 => v = .slice a6 len6 cap6
              | 8 | 9 => v = .tuple #[dgV u, .int .i64 q9]
              | 10 => v = dgV u
              | 11 => v = .int .i64 q9
              | 7 => HoldsS w' v len6 z6
              | 12 => ∃ g, v = .pointer (some ⟨g, 0, none⟩) ∧ M4 ≤ g ∧ Row w' g 33 .u8 (fill 16 [])
              | _ => v = .bool true)
            [[], [(0, some 75)], [], [], [], [], [], [(1, some 76), (6, some 81)], [(1, some 76), (2, some 77), (3, some 78), (4, some 79), (5, some 80), (7, some 82)], [(8, some 83)], [(9, some 74)], [(9, some 74)], []]
            [[(9, some 74)]]
            [(0, some 75), (1, some 76), (2, some 77), (3, some 78), (4, some 79), (5, some 80), (6, some 81), (7, some 82), (8, some 83), (9, some 74), (10, some 84), (11, some 85), (12, some 22)]
            (by kernel_rfl) (by kernel_rfl) (by kernel_rfl) (by kernel_rfl) (by kernel_rfl) (by kernel_rfl) (by kernel_rfl) (by decide) (by decide) (fun w1 w2 h hb => ⟨h.1.keep hb, h.2.1.keep hb, h.2.2.1.keep hb, h.2.2.2.1.keep hb, h.2.2.2.2.1.keep hb, h.2.2.2.2.2.1.keep hb, h.2.2.2.2.2.2.1.keep hb, Nat.le_trans h.2.2.2.2.2.2.2.1 hb.size, h.2.2.2.2.2.2.2.2.trans (hb.mono (Nat.le_of_lt h.1.lt))⟩) (fun c a w d v h => by cases d <;> exact h) ?_ ⟨P4.out.draw, R4_e.out.drew, R4_l.out.drew, R4_g2.out.drew, R4_g8.out.drew, Y4_6.out.drew, Y4_v.out.drew, HM4.out, B4.out.drew⟩ ?_ ?_ ?_
          · intro ι w1 w2 v h hb
            by_cases h7 : ι = 7
            · subst h7
              exact HoldsS.keep h hb
            by_cases h12 : ι = 12
            · subst h12
              exact (by obtain ⟨g, e, h1, hg⟩ := h; exact ⟨g, e, h1, hg.keep hb⟩)
            match ι, h7, h12, h with
            | 0, _, _, h => exact h
            | 1, _, _, h => exact h
            | 2, _, _, h => exact h
            | 3, _, _, h => exact h
            | 4, _, _, h => exact h
            | 5, _, _, h => exact h
            | 6, _, _, h => exact h
            | 7, g, _, h => exact absurd rfl g
            | 8, _, _, h => exact h
            | 9, _, _, h => exact h
            | 10, _, _, h => exact h
            | 11, _, _, h => exact h
            | 12, _, g, h => exact absurd rfl g
            | _ + 13, _, _, h => exact h
          · refine ⟨fun γ wx hS h => ?_, fun γ wx hS h => ?_, fun γ wx hS h => ?_, fun γ wx hS h => ?_, fun γ wx hS h => ?_, fun γ wx hS h => ?_, fun γ wx hS h => ?_, fun γ wx hS h => ?_, fun γ wx hS h => ?_, fun γ wx hS h => ?_, fun γ wx hS h => ?_, fun γ wx hS h => ?_, fun γ wx hS h => ?_, trivial⟩
            · refine ⟨_, rfl, Or.inl ⟨rfl, predRun_value (exec_load_blk 48 (.tmp 8) rfl (A) rfl 48 _ (0, 0) _ hS.1 Tryd.underlying48 rfl (cells48 x0_0 x0_1 x0_2)) rfl⟩⟩
            · have h0 := h
              have e0 : γ 0 = plV x0_0 x0_1 x0_2 := h0
              refine ⟨_, rfl, Or.inl ⟨rfl, predRun_call (f := 32) (args := #[plV x0_0 x0_1 x0_2]) (by simp only [putE, e0]; go_simp) ?_⟩⟩
              exact (to_any x0_0 x0_1 x0_2 wx).mono fun e w2 ⟨h1, h2⟩ => ⟨_, h1, rfl, h2⟩
            · refine ⟨_, rfl, Or.inl ⟨rfl, predRun_value (v := .int .i64 x1) (by simp only [putE]; first | rfl | (go_simp; done) | (go_simp; with_reducible rfl) | (go_simp; rfl)) rfl⟩⟩
            · refine ⟨_, rfl, Or.inl ⟨rfl, predRun_value (v := .int .i64 x2) (by simp only [putE]; first | rfl | (go_simp; done) | (go_simp; with_reducible rfl) | (go_simp; rfl)) rfl⟩⟩
            · refine ⟨_, rfl, Or.inl ⟨rfl, predRun_value (v := .int .i64 x3) (by simp only [putE]; first | rfl | (go_simp; done) | (go_simp; with_reducible rfl) | (go_simp; rfl)) rfl⟩⟩
            · refine ⟨_, rfl, Or.inl ⟨rfl, predRun_value (exec_load_blk 32 (.tmp 13) rfl (A + 1 + 1) rfl 32 _ (0, 0) _ hS.2.2.1 Tryd.underlying32 rfl (cells49 (And.intro HX5.out HB5.out).1)) rfl⟩⟩
            · refine ⟨_, rfl, Or.inl ⟨rfl, predRun_value (v := .slice a6 len6 cap6) (by simp only [putE]; first | rfl | (go_simp; done) | (go_simp; with_reducible rfl) | (go_simp; rfl)) rfl⟩⟩
            · obtain ⟨h1, h6⟩ := h
              have e1 : γ 1 = plV x0_0 x0_1 x0_2 := h1
              have e6 : γ 6 = .slice a6 len6 cap6 := h6
              refine ⟨_, rfl, Or.inl ⟨rfl, predRun_call (f := 47) (args := #[.slice a6 len6 cap6]) (by simp only [putE, e1, e6]; go_simp) ?_⟩⟩
              refine (toS_any _ len6 z6 wx hS.2.2.2.2.2.1 HW6n.out).mono ?_
              rintro e w2 ⟨v', h1, h2, h3⟩
              exact ⟨v', h1, HoldsS.ofRow HW6.out.2 (by have := HW6n.out; unfold maxLen; omega) HW6.out.1 h2, h3⟩
            · obtain ⟨h1, h2, h3, h4, h5, h7⟩ := h
              have e1 : γ 1 = plV x0_0 x0_1 x0_2 := h1
              have e2 : γ 2 = .int .i64 x1 := h2
              have e3 : γ 3 = .int .i64 x2 := h3
              have e4 : γ 4 = .int .i64 x3 := h4
              have e5 : γ 5 = dgV x5 := h5
              have p7 : HoldsS wx (γ 7) len6 z6 := h7
              obtain ⟨a7, c7, e7, -⟩ := id p7
              refine ⟨_, rfl, Or.inl ⟨rfl, predRun_call (f := 46) (args := #[plV x0_0 x0_1 x0_2, .int .i64 x1, .int .i64 x2, .int .i64 x3, dgV x5, .slice a7 len6 c7]) (by simp only [putE, e1, e2, e3, e4, e5, e7]; go_simp) ?_⟩⟩
              rw [e7] at p7
              exact (rise_any x0_0 x0_1 x0_2 x1 x2 x3 x5 a7 len6 c7 z6 wx (HK.out.keep (by rw [← HA.out]; exact hS.2.2.2.2.2.2.2.2)) HE.out HS.out (And.intro HX5.out HB5.out).1 (And.intro HX5.out HB5.out).2 p7).mono fun e w2 ⟨h1, h2⟩ => ⟨_, h1, by show Value.tuple _ = Value.tuple _; rw [HRS.out.1, HRS.out.2], h2⟩
            · have h8 := h
              have e8 : γ 8 = .tuple #[dgV u, .int .i64 q9] := h8
              refine ⟨_, rfl, Or.inl ⟨rfl, predRun_value (v := .tuple #[dgV u, .int .i64 q9]) (by simp only [putE, e8]; first | rfl | (go_simp; done) | (go_simp; with_reducible rfl) | (go_simp; rfl)) rfl⟩⟩
            · have h9 := h
              have e9 : γ 9 = .tuple #[dgV u, .int .i64 q9] := h9
              refine ⟨_, rfl, Or.inl ⟨rfl, predRun_value (v := dgV u) (by simp only [putE, e9]; first | rfl | (go_simp; done) | (go_simp; with_reducible rfl) | (go_simp; rfl)) rfl⟩⟩
            · have h9 := h
              have e9 : γ 9 = .tuple #[dgV u, .int .i64 q9] := h9
              refine ⟨_, rfl, Or.inl ⟨rfl, predRun_value (v := .int .i64 q9) (by simp only [putE, e9]; first | rfl | (go_simp; done) | (go_simp; with_reducible rfl) | (go_simp; rfl)) rfl⟩⟩
            · refine ⟨_, rfl, Or.inl ⟨rfl, predRun_new (w' := wx.alloc z50) (v := .pointer (some ⟨wx.heap.size, 0, none⟩)) (by simp only [putE]; first | rfl | (go_simp; done) | (go_simp; rfl)) (more (Below.refl _ _) _) ⟨_, rfl, hS.2.2.2.2.2.2.2.1, Blk.new _ _⟩⟩⟩
          · refine ⟨fun γ wx hS h => ?_, trivial⟩
            · have h9 := h
              have e9 : γ 9 = .tuple #[dgV u, .int .i64 q9] := h9
              refine ⟨_, .int .i64 q9, rfl, Or.inl ⟨rfl, fun wz => by simp only [putE, e9]; first | rfl | (go_simp; done) | (go_simp; rfl)⟩, rfl⟩
          · intro γ w9 hS h
            have ez : γ 10 = dgV u := h.2.2.2.2.2.2.2.2.2.2.1
            have e11 : γ 11 = .int .i64 q9 := h.2.2.2.2.2.2.2.2.2.2.2.1
            obtain ⟨g9, ep, hMg, hg⟩ : ∃ g, γ 12 = .pointer (some ⟨g, 0, none⟩) ∧ M4 ≤ g ∧ Row w9 g 33 .u8 (fill 16 []) := h.2.2.2.2.2.2.2.2.2.2.2.2
            simp only [putE, Act.put, List.setIfInBounds_toArray, List.set_cons_zero, List.set_cons_succ]
            rw [ez, ep, e11]
            have HGA : Kp (Row w9 g9 33 .u8 (fill 16 [])) := ⟨hg⟩
            obtain ⟨W5, hW9⟩ : ∃ W, W = w9.setRow g9 (kv .u8 u).toArray := ⟨_, rfl⟩
            have P5 : Kp (Blk W5 A (.cells #[.int .i64 x0_0, .int .u32 x0_1, .int .u32 x0_2] 48)) := ⟨by rw [hW9]; exact (setRow_other _ g9 A _ (by omega)).trans hS.1⟩
            have R5_e : Kp (Row W5 (A + 1) 32 .u8 x4) := ⟨by rw [hW9]; exact Row.otherRow hS.2.1 (by omega) _⟩
            have R5_l : Kp (Row W5 (A + 1 + 1) 32 .u8 x5) := ⟨by rw [hW9]; exact Row.otherRow hS.2.2.1 (by omega) _⟩
            have R5_g2 : Kp (Row W5 (g2) 32 .u8 z) := ⟨by rw [hW9]; exact Row.otherRow hS.2.2.2.1 (by omega) _⟩
            have R5_g8 : Kp (Row W5 (g8) 33 .u8 top) := ⟨by rw [hW9]; exact Row.otherRow hS.2.2.2.2.1 (by omega) _⟩
            have R5_g9 : Kp (Row W5 (g9) 33 .u8 u) := ⟨by rw [hW9]; exact HGA.out.setRow u⟩
            have Y5_6 : Kp (HoldsS W5 (.slice a6 len6 cap6) len6 z6) := ⟨by rw [hW9]; exact hS.2.2.2.2.2.1.off2 (fun h0 => wayb_off (HWB4_6.out h0) (by omega)) _⟩
            have Y5_v : Kp (HoldsS W5 (.slice a2 n c2) n Wl) := ⟨by rw [hW9]; exact hS.2.2.2.2.2.2.1.off2 (fun h0 => wayb_off (HWB4_v.out h0) (by omega)) _⟩
            have B5 : Kp (Below A w W5) := ⟨by rw [hW9]; exact Below.row hS.2.2.2.2.2.2.2.2 (by omega) _⟩
            have HWk := Kp.mk hW9
            clear h hS ez ep hg hW9 P4 B4 HM4 HMs4 hMg hbA4 R4_e hb4_e R4_l hb4_l R4_g2 hb4_g2 R4_g8 hb4_g8 e11 Y4_6 HWB4_6 Y4_v HWB4_v
            refine wpOps_step rfl rfl ?_
            refine wp_store_rowD rfl 33 (.tmp 22) (.tmp 84) rfl g9 (kv .u8 u).toArray rfl rfl 33 _ HGA.out (cells50 HL_u.out.1) (size50 HL_u.out.1) (kv_all _ _) ?_
            rw [← HWk.out]
            clear HWk HGA
            refine wpOps_step rfl rfl ?_
            refine wp_assign_endD (d := some 23) (v := .int .i64 q9) rfl rfl rfl ?_
            simp only [Act.put, List.setIfInBounds_toArray, List.set_cons_zero, List.set_cons_succ]
            refine wpOps_done ?_
            by_cases hnk : (len6 : Int) = lev x2
            · have hq9 : q9 = 0 := by rw [← HRS.out.2]; simp [riseF, HOK.out, hnk]
              subst hq9
              have hg := neg50
              by_cases hut : u = top
              · have hq : ∀ w, (binOp .neq 33 (dgV u) (dgV top)).run Tryd.prog w = .ok (.bool false) w := fun w => by rw [neq33 HL_u.out.2 HL_top.out.2 HL_u.out.1 HL_top.out.1 w, decide_eq_true hut]; rfl
                have HNK : Kp ((len6 : Int) = lev x2 ∧ u = top) := ⟨⟨hnk, hut⟩⟩
                have hg2' := eqg32
                clear hnk hut
                by_cases hlz : x5 = z
                · have hq2 : ∀ w, (binOp .eql 32 (dgV x5) (dgV z)).run Tryd.prog w = .ok (.bool true) w := fun w => by rw [eq32 HB5.out HL_z.out.2 HX5.out HL_z.out.1 w, decide_eq_true hlz]
                  have HLZ := Kp.mk hlz
                  clear hlz
                  go_wp2_with first
                    | (refine wpList_load_rowG rfl 33 (.tmp 22) rfl g9 rfl 33 _ (0, 0) _ R5_g9.out Tryd.underlying33 rfl (cells50 HL_u.out.1) ?_)
                    | (refine wpList_load_rowG rfl 33 (.tmp 20) rfl g8 rfl 33 _ (0, 0) _ R5_g8.out Tryd.underlying33 rfl (cells50 HL_top.out.1) ?_)
                    | (refine wpList_load_row rfl 32 (.tmp 13) rfl (A + 1 + 1) rfl 32 _ (0, 0) _ R5_l.out Tryd.underlying32 rfl (cells49 HX5.out) ?_)
                    | (refine wpList_load_row rfl 32 (.tmp 17) rfl g2 rfl 32 _ (0, 0) _ R5_g2.out Tryd.underlying32 rfl (cells49 HL_z.out.1) ?_)
                  clear hq hg hq2 hg2'
                  refine (sames_any (.slice a6 len6 cap6) (.slice a2 n c2) len6 n z6 Wl W5 Y5_6.out Y5_v.out HW6n.out (by have := HN3.out; omega)).mono ?_
                  rintro r W6 ⟨rfl, hb⟩
                  have P6 := Kp.mk (P5.out.keep hb)
                  have R6_e := Kp.mk (R5_e.out.keep hb)
                  have R6_l := Kp.mk (R5_l.out.keep hb)
                  have R6_g2 := Kp.mk (R5_g2.out.keep hb)
                  have R6_g8 := Kp.mk (R5_g8.out.keep hb)
                  have R6_g9 := Kp.mk (R5_g9.out.keep hb)
                  have Y6_6 := Kp.mk (Y5_6.out.keep hb)
                  have Y6_v := Kp.mk (Y5_v.out.keep hb)
                  have B6 : Kp (Below A w W6) := ⟨B5.out.trans (hb.mono (Nat.le_of_lt P5.out.lt))⟩
                  clear hb P5 B5 R5_e R5_l R5_g2 R5_g8 R5_g9 Y5_6 Y5_v
                  cases hsm : decide (len6 = n ∧ z6 = Wl) with
                  | true =>
                    go_wp2_with fail
                    go_ret
                    exact ⟨rfl, by rw [← HA.out]; exact B6.out⟩
                  | false =>
                    have HNE : Kp (¬ (x5 = z ∧ z6 = Wl)) := ⟨fun h => by have h9 := of_decide_eq_false hsm; exact h9 ⟨way_len HNK.out.1 HZQ.out.2.1 HOK.out, h.2⟩⟩
                    clear hsm
                    go_wp2_with fail
                    obtain ⟨k, hk⟩ : ∃ k : Nat, lev x2 = k := ⟨(lev x2).toNat, by have := (showOk_spec HOK.out).2.1; omega⟩
                    have HL := Kp.mk hk
                    have HK3 : Kp (k ≤ 3) := ⟨(lev_inv hk).2⟩
                    have HK4 : Kp (((0 : Int) + 1) * 2 ^ k ≤ 8) := ⟨by have := HK3.out; rcases (show k = 0 ∨ k = 1 ∨ k = 2 ∨ k = 3 by omega) with rfl | rfl | rfl | rfl <;> decide⟩
                    have HTopk : Kp (top = nodeS x0_0 x0_1 x0_2 x1 x4 k 0) := ⟨by rw [HTop.out, show (lev x2).toNat = k by omega]⟩
                    obtain ⟨ts, hts⟩ : ∃ ts, ts = nodeT x0_0 x0_1 x0_2 x1 x4 k 0 := ⟨_, rfl⟩
                    have HF : Kp (∀ t ∈ ts, 0 < t.length ∧ t.getD 0 0 ≠ 0) := ⟨by rw [hts]; exact nodeT_first _ _ _ _ _ _ _⟩
                    have HTe := Kp.mk hts
                    clear hk hts
                    obtain ⟨M6, hM⟩ : ∃ M, M = W6.heap.size := ⟨_, rfl⟩
                    have hbA6 : A < M6 := by rw [hM]; exact P6.out.lt
                    have hb6_e : A + 1 < M6 := by rw [hM]; exact R6_e.out.lt
                    have hb6_l : A + 1 + 1 < M6 := by rw [hM]; exact R6_l.out.lt
                    have HM6 : Kp (M6 ≤ W6.heap.size) := ⟨Nat.le_of_eq hM⟩
                    have HMs6 : Kp (W6.heap.size ≤ M6) := ⟨Nat.le_of_eq hM.symm⟩
                    have HWB6_6 : Kp (0 < len6 → ∀ x, a6 = some x → x.block < M6) := ⟨fun h0 x hx => Nat.lt_of_lt_of_le (Y6_6.out.lt h0 x hx) HMs6.out⟩
                    clear hM
                    refine wp_region_predQ (fun w' => Blk w' A (.cells #[.int .i64 x0_0, .int .u32 x0_1, .int .u32 x0_2] 48) ∧ Row w' (A + 1) 32 .u8 x4 ∧ Row w' (A + 1 + 1) 32 .u8 x5 ∧ HoldsS w' (.slice a6 len6 cap6) len6 z6 ∧ M6 ≤ w'.heap.size ∧ Below A w w') [0, 1, 2, 3, 4, 5, 6, 7, 8, 9] [8] [10, 11]
                      (fun ι w' v => match ι with
                        | 0 => v = plV x0_0 x0_1 x0_2
                        | 1 => v = .int .i64 x1
                        | 2 => v = dgV x4
                        | 3 => v = .int .i64 x2
                        | 4 => v = .int .i64 k
                        | 7 => v = dgV top
                        | 5 => ∃ t, v = .tuple #[dgV top, t] ∧ HoldsP w' t ts
                        | 6 => ∃ t, v = .tuple #[dgV top, t] ∧ HoldsP w' t ts
                        | 8 => HoldsP w' v ts
                        | 9 => ∃ g, v = .pointer (some ⟨g, 0, none⟩) ∧ M6 ≤ g ∧ Row w' g 32 .u8 (fill 16 [])
                        | _ => v = .bool true)
                      [[], [], [], [], [(3, some 107)], [(0, some 104), (1, some 105), (2, some 106), (4, some 108)], [(5, some 109)], [(6, some 103)], [(6, some 103)], []]
                      [[(6, some 103)]]
                      [(0, some 104), (1, some 105), (2, some 106), (3, some 107), (4, some 108), (5, some 109), (6, some 103), (7, some 110), (8, some 111), (9, some 24)]
                      (by kernel_rfl) (by kernel_rfl) (by kernel_rfl) (by kernel_rfl) (by kernel_rfl) (by kernel_rfl) (by kernel_rfl) (by decide) (by decide) (fun w1 w2 h hb => ⟨h.1.keep hb, h.2.1.keep hb, h.2.2.1.keep hb, h.2.2.2.1.keep hb, Nat.le_trans h.2.2.2.2.1 hb.size, h.2.2.2.2.2.trans (hb.mono (Nat.le_of_lt h.1.lt))⟩) (fun c a w d v h => by cases d <;> exact h) ?_ ⟨P6.out.draw, R6_e.out.drew, R6_l.out.drew, Y6_6.out.drew, HM6.out, B6.out.drew⟩ ?_ ?_ ?_
                    · intro ι w1 w2 v h hb
                      by_cases h5 : ι = 5
                      · subst h5
                        exact (show ∃ t, _ ∧ HoldsP w2 t ts from (by obtain ⟨t, e, ht⟩ := h; exact ⟨t, e, ht.keep hb⟩))
                      by_cases h6 : ι = 6
                      · subst h6
                        exact (show ∃ t, _ ∧ HoldsP w2 t ts from (by obtain ⟨t, e, ht⟩ := h; exact ⟨t, e, ht.keep hb⟩))
                      by_cases h8 : ι = 8
                      · subst h8
                        exact HoldsP.keep h hb
                      by_cases h9 : ι = 9
                      · subst h9
                        exact (by obtain ⟨g, e, h1, hg⟩ := h; exact ⟨g, e, h1, hg.keep hb⟩)
                      match ι, h5, h6, h8, h9, h with
                      | 0, _, _, _, _, h => exact h
                      | 1, _, _, _, _, h => exact h
                      | 2, _, _, _, _, h => exact h
                      | 3, _, _, _, _, h => exact h
                      | 4, _, _, _, _, h => exact h
                      | 5, g, _, _, _, h => exact absurd rfl g
                      | 6, _, g, _, _, h => exact absurd rfl g
                      | 7, _, _, _, _, h => exact h
                      | 8, _, _, g, _, h => exact absurd rfl g
                      | 9, _, _, _, g, h => exact absurd rfl g
                      | _ + 10, _, _, _, _, h => exact h
                    · refine ⟨fun γ wx hS h => ?_, fun γ wx hS h => ?_, fun γ wx hS h => ?_, fun γ wx hS h => ?_, fun γ wx hS h => ?_, fun γ wx hS h => ?_, fun γ wx hS h => ?_, fun γ wx hS h => ?_, fun γ wx hS h => ?_, fun γ wx hS h => ?_, trivial⟩
                      · refine ⟨_, rfl, Or.inl ⟨rfl, predRun_value (exec_load_blk 48 (.tmp 8) rfl (A) rfl 48 _ (0, 0) _ hS.1 Tryd.underlying48 rfl (cells48 x0_0 x0_1 x0_2)) rfl⟩⟩
                      · refine ⟨_, rfl, Or.inl ⟨rfl, predRun_value (v := .int .i64 x1) (by simp only [putE]; first | rfl | (go_simp; done) | (go_simp; with_reducible rfl) | (go_simp; rfl)) rfl⟩⟩
                      · refine ⟨_, rfl, Or.inl ⟨rfl, predRun_value (exec_load_blk 32 (.tmp 12) rfl (A + 1) rfl 32 _ (0, 0) _ hS.2.1 Tryd.underlying32 rfl (cells49 HX4.out)) rfl⟩⟩
                      · refine ⟨_, rfl, Or.inl ⟨rfl, predRun_value (v := .int .i64 x2) (by simp only [putE]; first | rfl | (go_simp; done) | (go_simp; with_reducible rfl) | (go_simp; rfl)) rfl⟩⟩
                      · have h3 := h
                        have e3 : γ 3 = .int .i64 x2 := h3
                        refine ⟨_, rfl, Or.inl ⟨rfl, predRun_call (f := 41) (args := #[.int .i64 x2]) (by simp only [putE, e3]; go_simp) ?_⟩⟩
                        exact (rlevels_any x2 wx).mono fun e w2 ⟨h1, h2⟩ => ⟨_, h1, by show Value.int .i64 (lev x2) = _; rw [HL.out], h2 ▸ Below.refl _ _⟩
                      · obtain ⟨h0, h1, h2, h4⟩ := h
                        have e0 : γ 0 = plV x0_0 x0_1 x0_2 := h0
                        have e1 : γ 1 = .int .i64 x1 := h1
                        have e2 : γ 2 = dgV x4 := h2
                        have e4 : γ 4 = .int .i64 k := h4
                        refine ⟨_, rfl, Or.inl ⟨rfl, predRun_call (f := 52) (args := #[plV x0_0 x0_1 x0_2, .int .i64 x1, dgV x4, .int .i64 k, .int .i64 0]) (by simp only [putE, e0, e1, e2, e4]; go_simp) ?_⟩⟩
                        exact (node_any x0_0 x0_1 x0_2 x1 x4 HE.out HS.out HX4.out HB4.out k 0 wx HK3.out (by omega) HK4.out).mono fun e w2 ⟨v', h1, h2, h3⟩ => ⟨_, h1, ⟨v', by rw [HTopk.out], by rw [HTe.out]; exact h2⟩, h3⟩
                      · have h5 := h
                        have p5 : ∃ t, (γ 5) = .tuple #[dgV top, t] ∧ HoldsP wx t ts := h5
                        obtain ⟨t, e4, ht⟩ := p5
                        refine ⟨_, rfl, Or.inl ⟨rfl, predRun_value (v := .tuple #[dgV top, t]) (by simp only [putE, e4]; first | rfl | (go_simp; done) | (go_simp; rfl)) ⟨t, rfl, ht⟩⟩⟩
                      · have h6 := h
                        have p6 : ∃ t, (γ 6) = .tuple #[dgV top, t] ∧ HoldsP wx t ts := h6
                        obtain ⟨t, e5, ht⟩ := p6
                        refine ⟨_, rfl, Or.inl ⟨rfl, predRun_value (v := dgV top) (by simp only [putE, e5]; first | rfl | (go_simp; done) | (go_simp; rfl)) rfl⟩⟩
                      · have h6 := h
                        have p6 : ∃ t, (γ 6) = .tuple #[dgV top, t] ∧ HoldsP wx t ts := h6
                        obtain ⟨t, e5, ht⟩ := p6
                        refine ⟨_, rfl, Or.inl ⟨rfl, predRun_value (v := t) (by simp only [putE, e5]; first | rfl | (go_simp; done) | (go_simp; rfl)) ht⟩⟩
                      · refine ⟨_, rfl, Or.inl ⟨rfl, predRun_new (w' := wx.alloc z49) (v := .pointer (some ⟨wx.heap.size, 0, none⟩)) (by simp only [putE]; first | rfl | (go_simp; done) | (go_simp; rfl)) (more (Below.refl _ _) _) ⟨_, rfl, hS.2.2.2.2.1, Blk.new _ _⟩⟩⟩
                    · refine ⟨fun γ wx hS h => ?_, trivial⟩
                      · have h6 := h
                        have p6 : ∃ t, (γ 6) = .tuple #[dgV top, t] ∧ HoldsP wx t ts := h6
                        obtain ⟨t, e5, ht⟩ := p6
                        refine ⟨_, t, rfl, Or.inl ⟨rfl, fun wz => by simp only [putE, e5]; first | rfl | (go_simp; done) | (go_simp; rfl)⟩, ht⟩
                    · intro γ w9 hS h
                      have p8 : HoldsP w9 (γ 8) ts := h.2.2.2.2.2.2.2.2.1
                      have e7 : γ 7 = dgV top := h.2.2.2.2.2.2.2.1
                      obtain ⟨g14, e9, hMg, hg⟩ : ∃ g, γ 9 = .pointer (some ⟨g, 0, none⟩) ∧ M6 ≤ g ∧ Row w9 g 32 .u8 (fill 16 []) := h.2.2.2.2.2.2.2.2.2
                      obtain ⟨a7, n7, c7, e8, hn7⟩ := p8.slice
                      simp only [putE, Act.put, List.setIfInBounds_toArray, List.set_cons_zero, List.set_cons_succ]
                      rw [e7, e8, e9]
                      rw [e8] at p8
                      have HN7 := Kp.mk hn7
                      have HGA : Kp (Row w9 g14 32 .u8 (fill 16 [])) := ⟨hg⟩
                      obtain ⟨W7, hW9⟩ : ∃ W, W = w9.setRow g14 (kv .u8 top).toArray := ⟨_, rfl⟩
                      have P7 : Kp (Blk W7 A (.cells #[.int .i64 x0_0, .int .u32 x0_1, .int .u32 x0_2] 48)) := ⟨by rw [hW9]; exact (setRow_other _ g14 A _ (by omega)).trans hS.1⟩
                      have R7_l : Kp (Row W7 (A + 1 + 1) 32 .u8 x5) := ⟨by rw [hW9]; exact Row.otherRow hS.2.2.1 (by omega) _⟩
                      have Y7_6 : Kp (HoldsS W7 (.slice a6 len6 cap6) len6 z6) := ⟨by rw [hW9]; exact hS.2.2.2.1.off2 (fun h0 => wayb_off (HWB6_6.out h0) (by omega)) _⟩
                      have HT1 : Kp (HoldsP W7 (.slice a7 n7 c7) ts) := ⟨by rw [hW9]; exact p8.other _ hg HF.out⟩
                      have B7 : Kp (Below A w W7) := ⟨by rw [hW9]; exact Below.row hS.2.2.2.2.2 (by omega) _⟩
                      have HWk := Kp.mk hW9
                      clear h hS e7 e8 e9 p8 hg hW9 hn7 P6 B6 HM6 HMs6 hMg hbA6 R6_e hb6_e R6_l hb6_l Y6_6 HWB6_6
                      refine wpOps_step rfl rfl ?_
                      refine wp_store_rowD rfl 32 (.tmp 24) (.tmp 110) rfl g14 (kv .u8 top).toArray rfl rfl 32 _ HGA.out (cells49 HL_top.out.1) (size50 HL_top.out.1) (kv_all _ _) ?_
                      rw [← HWk.out]
                      clear HWk HGA
                      refine wpOps_step rfl rfl ?_
                      refine wp_assign_endD (d := some 25) (v := .slice a7 n7 c7) rfl rfl rfl ?_
                      simp only [Act.put, List.setIfInBounds_toArray, List.set_cons_zero, List.set_cons_succ]
                      refine wpOps_done ?_
                      go_wp2_with first
                        | (refine wpList_load_row rfl 48 (.tmp 8) rfl A rfl 48 _ (0, 0) _ P7.out Tryd.underlying48 rfl (cells48 x0_0 x0_1 x0_2) ?_)
                        | (refine wpList_load_row rfl 32 (.tmp 13) rfl (A + 1 + 1) rfl 32 _ (0, 0) _ R7_l.out Tryd.underlying32 rfl (cells49 HX5.out) ?_)
                      refine (rrise_any x0_0 x0_1 x0_2 x1 x2 x3 x5 a6 len6 cap6 z6 W7 HE.out HS.out HX5.out HB5.out Y7_6.out).mono ?_
                      rintro r w10 ⟨v5, rfl, k1, -, hb⟩
                      rw [HRS.out.1, HRS.out.2]
                      obtain ⟨a8, n8, c8, rfl, hn8⟩ := k1.slice
                      have HN8 := Kp.mk hn8
                      have HT2 := Kp.mk k1
                      have HT1b := Kp.mk (HT1.out.keep hb)
                      have B9 : Kp (Below A w w10) := ⟨B7.out.trans (hb.mono (Nat.le_of_lt P7.out.lt))⟩
                      have HA9 : Kp (A ≤ w10.heap.size) := ⟨by have := P7.out.lt; have := hb.size; omega⟩
                      clear k1 hb hn8 HT1 P7 B7 R7_l Y7_6
                      obtain ⟨W10, hW10⟩ : ∃ W, W = (w10.alloc z49).setRow w10.heap.size (kv .u8 u).toArray := ⟨_, rfl⟩
                      have hb9 : Below w10.heap.size w10 W10 := by rw [hW10]; exact Below.row (more (Below.refl _ _) z49) (Nat.le_refl _) _
                      have HT3 := Kp.mk (HT1b.out.keep hb9)
                      have HT4 := Kp.mk (HT2.out.keep hb9)
                      have B10 : Kp (Below A w W10) := ⟨B9.out.trans (hb9.mono HA9.out)⟩
                      have HA10 : Kp (A ≤ W10.heap.size) := ⟨by have := hb9.size; have := HA9.out; omega⟩
                      clear hb9 HT1b HT2 B9 HA9
                      go_wp2_with (refine wpList_store_row rfl 32 (.tmp 26) (.tmp 120) rfl w10.heap.size (kv .u8 u).toArray rfl rfl 32 _ (Blk.new w10 z49) (cells49 HL_u.out.1) (size50 HL_u.out.1) (kv_all _ _) ?_; refine wpl_world (· = W10) hW10.symm ?_; clear hW10; intro W0 e0; rw [e0]; clear e0)
                      have hcl : ClashP ts (riseT x0_0 x0_1 x0_2 x1 x5 x2 x3 z6 len6) := by
                        rw [HTe.out]
                        exact sound_clash x0_0 x0_1 x0_2 x1 x4 x5 x2 x3 z6 len6 k HOK.out HL.out HNK.out.1 HX5.out HW6.out.1 (by rw [HRS.out.1, HNK.out.2, HTop.out]) (by rw [← HZQ.out.1, ← HZQ.out.2.2]; exact HNE.out)
                      refine (clash_any a7 n7 c7 ts a8 n8 c8 _ W10 HT3.out HT4.out (by rw [HN7.out, HTe.out]; exact nodeT_cons _ _ _ _ _ HX4.out _ _) (by rw [HN8.out]; exact riseT_cons _ _ _ _ _ _ _ _ _ HX5.out HW6.out.1) (by rw [HN7.out, HTe.out, nodeT_len]; have h3 := HK3.out; rcases (show k = 0 ∨ k = 1 ∨ k = 2 ∨ k = 3 by omega) with h | h | h | h <;> rw [h] <;> decide) (by rw [HN8.out]; exact riseT_small _ _ _ _ _ _ _ _ _ HNK.out.1)).mono ?_
                      rintro r w11 ⟨x, rfl, hx, hb⟩
                      have hxt : x = true := hx.2 hcl
                      subst hxt
                      go_wp2_with fail
                      go_ret
                      exact ⟨rfl, by rw [← HA.out]; exact B10.out.trans (hb.mono HA10.out)⟩
                · have hq2 : ∀ w, (binOp .eql 32 (dgV x5) (dgV z)).run Tryd.prog w = .ok (.bool false) w := fun w => by rw [eq32 HB5.out HL_z.out.2 HX5.out HL_z.out.1 w, decide_eq_false hlz]
                  have HNE : Kp (¬ (x5 = z ∧ z6 = Wl)) := ⟨fun h => hlz h.1⟩
                  clear hlz
                  go_wp2_with first
                    | (refine wpList_load_rowG rfl 33 (.tmp 22) rfl g9 rfl 33 _ (0, 0) _ R5_g9.out Tryd.underlying33 rfl (cells50 HL_u.out.1) ?_)
                    | (refine wpList_load_rowG rfl 33 (.tmp 20) rfl g8 rfl 33 _ (0, 0) _ R5_g8.out Tryd.underlying33 rfl (cells50 HL_top.out.1) ?_)
                    | (refine wpList_load_row rfl 32 (.tmp 13) rfl (A + 1 + 1) rfl 32 _ (0, 0) _ R5_l.out Tryd.underlying32 rfl (cells49 HX5.out) ?_)
                    | (refine wpList_load_row rfl 32 (.tmp 17) rfl g2 rfl 32 _ (0, 0) _ R5_g2.out Tryd.underlying32 rfl (cells49 HL_z.out.1) ?_)
                  clear hq hg hq2 hg2'
                  obtain ⟨k, hk⟩ : ∃ k : Nat, lev x2 = k := ⟨(lev x2).toNat, by have := (showOk_spec HOK.out).2.1; omega⟩
                  have HL := Kp.mk hk
                  have HK3 : Kp (k ≤ 3) := ⟨(lev_inv hk).2⟩
                  have HK4 : Kp (((0 : Int) + 1) * 2 ^ k ≤ 8) := ⟨by have := HK3.out; rcases (show k = 0 ∨ k = 1 ∨ k = 2 ∨ k = 3 by omega) with rfl | rfl | rfl | rfl <;> decide⟩
                  have HTopk : Kp (top = nodeS x0_0 x0_1 x0_2 x1 x4 k 0) := ⟨by rw [HTop.out, show (lev x2).toNat = k by omega]⟩
                  obtain ⟨ts, hts⟩ : ∃ ts, ts = nodeT x0_0 x0_1 x0_2 x1 x4 k 0 := ⟨_, rfl⟩
                  have HF : Kp (∀ t ∈ ts, 0 < t.length ∧ t.getD 0 0 ≠ 0) := ⟨by rw [hts]; exact nodeT_first _ _ _ _ _ _ _⟩
                  have HTe := Kp.mk hts
                  clear hk hts
                  obtain ⟨M5, hM⟩ : ∃ M, M = W5.heap.size := ⟨_, rfl⟩
                  have hbA5 : A < M5 := by rw [hM]; exact P5.out.lt
                  have hb5_e : A + 1 < M5 := by rw [hM]; exact R5_e.out.lt
                  have hb5_l : A + 1 + 1 < M5 := by rw [hM]; exact R5_l.out.lt
                  have HM5 : Kp (M5 ≤ W5.heap.size) := ⟨Nat.le_of_eq hM⟩
                  have HMs5 : Kp (W5.heap.size ≤ M5) := ⟨Nat.le_of_eq hM.symm⟩
                  have HWB5_6 : Kp (0 < len6 → ∀ x, a6 = some x → x.block < M5) := ⟨fun h0 x hx => Nat.lt_of_lt_of_le (Y5_6.out.lt h0 x hx) HMs5.out⟩
                  clear hM
                  refine wp_region_predQ (fun w' => Blk w' A (.cells #[.int .i64 x0_0, .int .u32 x0_1, .int .u32 x0_2] 48) ∧ Row w' (A + 1) 32 .u8 x4 ∧ Row w' (A + 1 + 1) 32 .u8 x5 ∧ HoldsS w' (.slice a6 len6 cap6) len6 z6 ∧ M5 ≤ w'.heap.size ∧ Below A w w') [0, 1, 2, 3, 4, 5, 6, 7, 8, 9] [8] [10, 11]
                    (fun ι w' v => match ι with
                      | 0 => v = plV x0_0 x0_1 x0_2
                      | 1 => v = .int .i64 x1
                      | 2 => v = dgV x4
                      | 3 => v = .int .i64 x2
                      | 4 => v = .int .i64 k
                      | 7 => v = dgV top
                      | 5 => ∃ t, v = .tuple #[dgV top, t] ∧ HoldsP w' t ts
                      | 6 => ∃ t, v = .tuple #[dgV top, t] ∧ HoldsP w' t ts
                      | 8 => HoldsP w' v ts
                      | 9 => ∃ g, v = .pointer (some ⟨g, 0, none⟩) ∧ M5 ≤ g ∧ Row w' g 32 .u8 (fill 16 [])
                      | _ => v = .bool true)
                    [[], [], [], [], [(3, some 107)], [(0, some 104), (1, some 105), (2, some 106), (4, some 108)], [(5, some 109)], [(6, some 103)], [(6, some 103)], []]
                    [[(6, some 103)]]
                    [(0, some 104), (1, some 105), (2, some 106), (3, some 107), (4, some 108), (5, some 109), (6, some 103), (7, some 110), (8, some 111), (9, some 24)]
                    (by kernel_rfl) (by kernel_rfl) (by kernel_rfl) (by kernel_rfl) (by kernel_rfl) (by kernel_rfl) (by kernel_rfl) (by decide) (by decide) (fun w1 w2 h hb => ⟨h.1.keep hb, h.2.1.keep hb, h.2.2.1.keep hb, h.2.2.2.1.keep hb, Nat.le_trans h.2.2.2.2.1 hb.size, h.2.2.2.2.2.trans (hb.mono (Nat.le_of_lt h.1.lt))⟩) (fun c a w d v h => by cases d <;> exact h) ?_ ⟨P5.out.draw, R5_e.out.drew, R5_l.out.drew, Y5_6.out.drew, HM5.out, B5.out.drew⟩ ?_ ?_ ?_
                  · intro ι w1 w2 v h hb
                    by_cases h5 : ι = 5
                    · subst h5
                      exact (show ∃ t, _ ∧ HoldsP w2 t ts from (by obtain ⟨t, e, ht⟩ := h; exact ⟨t, e, ht.keep hb⟩))
                    by_cases h6 : ι = 6
                    · subst h6
                      exact (show ∃ t, _ ∧ HoldsP w2 t ts from (by obtain ⟨t, e, ht⟩ := h; exact ⟨t, e, ht.keep hb⟩))
                    by_cases h8 : ι = 8
                    · subst h8
                      exact HoldsP.keep h hb
                    by_cases h9 : ι = 9
                    · subst h9
                      exact (by obtain ⟨g, e, h1, hg⟩ := h; exact ⟨g, e, h1, hg.keep hb⟩)
                    match ι, h5, h6, h8, h9, h with
                    | 0, _, _, _, _, h => exact h
                    | 1, _, _, _, _, h => exact h
                    | 2, _, _, _, _, h => exact h
                    | 3, _, _, _, _, h => exact h
                    | 4, _, _, _, _, h => exact h
                    | 5, g, _, _, _, h => exact absurd rfl g
                    | 6, _, g, _, _, h => exact absurd rfl g
                    | 7, _, _, _, _, h => exact h
                    | 8, _, _, g, _, h => exact absurd rfl g
                    | 9, _, _, _, g, h => exact absurd rfl g
                    | _ + 10, _, _, _, _, h => exact h
                  · refine ⟨fun γ wx hS h => ?_, fun γ wx hS h => ?_, fun γ wx hS h => ?_, fun γ wx hS h => ?_, fun γ wx hS h => ?_, fun γ wx hS h => ?_, fun γ wx hS h => ?_, fun γ wx hS h => ?_, fun γ wx hS h => ?_, fun γ wx hS h => ?_, trivial⟩
                    · refine ⟨_, rfl, Or.inl ⟨rfl, predRun_value (exec_load_blk 48 (.tmp 8) rfl (A) rfl 48 _ (0, 0) _ hS.1 Tryd.underlying48 rfl (cells48 x0_0 x0_1 x0_2)) rfl⟩⟩
                    · refine ⟨_, rfl, Or.inl ⟨rfl, predRun_value (v := .int .i64 x1) (by simp only [putE]; first | rfl | (go_simp; done) | (go_simp; with_reducible rfl) | (go_simp; rfl)) rfl⟩⟩
                    · refine ⟨_, rfl, Or.inl ⟨rfl, predRun_value (exec_load_blk 32 (.tmp 12) rfl (A + 1) rfl 32 _ (0, 0) _ hS.2.1 Tryd.underlying32 rfl (cells49 HX4.out)) rfl⟩⟩
                    · refine ⟨_, rfl, Or.inl ⟨rfl, predRun_value (v := .int .i64 x2) (by simp only [putE]; first | rfl | (go_simp; done) | (go_simp; with_reducible rfl) | (go_simp; rfl)) rfl⟩⟩
                    · have h3 := h
                      have e3 : γ 3 = .int .i64 x2 := h3
                      refine ⟨_, rfl, Or.inl ⟨rfl, predRun_call (f := 41) (args := #[.int .i64 x2]) (by simp only [putE, e3]; go_simp) ?_⟩⟩
                      exact (rlevels_any x2 wx).mono fun e w2 ⟨h1, h2⟩ => ⟨_, h1, by show Value.int .i64 (lev x2) = _; rw [HL.out], h2 ▸ Below.refl _ _⟩
                    · obtain ⟨h0, h1, h2, h4⟩ := h
                      have e0 : γ 0 = plV x0_0 x0_1 x0_2 := h0
                      have e1 : γ 1 = .int .i64 x1 := h1
                      have e2 : γ 2 = dgV x4 := h2
                      have e4 : γ 4 = .int .i64 k := h4
                      refine ⟨_, rfl, Or.inl ⟨rfl, predRun_call (f := 52) (args := #[plV x0_0 x0_1 x0_2, .int .i64 x1, dgV x4, .int .i64 k, .int .i64 0]) (by simp only [putE, e0, e1, e2, e4]; go_simp) ?_⟩⟩
                      exact (node_any x0_0 x0_1 x0_2 x1 x4 HE.out HS.out HX4.out HB4.out k 0 wx HK3.out (by omega) HK4.out).mono fun e w2 ⟨v', h1, h2, h3⟩ => ⟨_, h1, ⟨v', by rw [HTopk.out], by rw [HTe.out]; exact h2⟩, h3⟩
                    · have h5 := h
                      have p5 : ∃ t, (γ 5) = .tuple #[dgV top, t] ∧ HoldsP wx t ts := h5
                      obtain ⟨t, e4, ht⟩ := p5
                      refine ⟨_, rfl, Or.inl ⟨rfl, predRun_value (v := .tuple #[dgV top, t]) (by simp only [putE, e4]; first | rfl | (go_simp; done) | (go_simp; rfl)) ⟨t, rfl, ht⟩⟩⟩
                    · have h6 := h
                      have p6 : ∃ t, (γ 6) = .tuple #[dgV top, t] ∧ HoldsP wx t ts := h6
                      obtain ⟨t, e5, ht⟩ := p6
                      refine ⟨_, rfl, Or.inl ⟨rfl, predRun_value (v := dgV top) (by simp only [putE, e5]; first | rfl | (go_simp; done) | (go_simp; rfl)) rfl⟩⟩
                    · have h6 := h
                      have p6 : ∃ t, (γ 6) = .tuple #[dgV top, t] ∧ HoldsP wx t ts := h6
                      obtain ⟨t, e5, ht⟩ := p6
                      refine ⟨_, rfl, Or.inl ⟨rfl, predRun_value (v := t) (by simp only [putE, e5]; first | rfl | (go_simp; done) | (go_simp; rfl)) ht⟩⟩
                    · refine ⟨_, rfl, Or.inl ⟨rfl, predRun_new (w' := wx.alloc z49) (v := .pointer (some ⟨wx.heap.size, 0, none⟩)) (by simp only [putE]; first | rfl | (go_simp; done) | (go_simp; rfl)) (more (Below.refl _ _) _) ⟨_, rfl, hS.2.2.2.2.1, Blk.new _ _⟩⟩⟩
                  · refine ⟨fun γ wx hS h => ?_, trivial⟩
                    · have h6 := h
                      have p6 : ∃ t, (γ 6) = .tuple #[dgV top, t] ∧ HoldsP wx t ts := h6
                      obtain ⟨t, e5, ht⟩ := p6
                      refine ⟨_, t, rfl, Or.inl ⟨rfl, fun wz => by simp only [putE, e5]; first | rfl | (go_simp; done) | (go_simp; rfl)⟩, ht⟩
                  · intro γ w9 hS h
                    have p8 : HoldsP w9 (γ 8) ts := h.2.2.2.2.2.2.2.2.1
                    have e7 : γ 7 = dgV top := h.2.2.2.2.2.2.2.1
                    obtain ⟨g14, e9, hMg, hg⟩ : ∃ g, γ 9 = .pointer (some ⟨g, 0, none⟩) ∧ M5 ≤ g ∧ Row w9 g 32 .u8 (fill 16 []) := h.2.2.2.2.2.2.2.2.2
                    obtain ⟨a7, n7, c7, e8, hn7⟩ := p8.slice
                    simp only [putE, Act.put, List.setIfInBounds_toArray, List.set_cons_zero, List.set_cons_succ]
                    rw [e7, e8, e9]
                    rw [e8] at p8
                    have HN7 := Kp.mk hn7
                    have HGA : Kp (Row w9 g14 32 .u8 (fill 16 [])) := ⟨hg⟩
                    obtain ⟨W6, hW9⟩ : ∃ W, W = w9.setRow g14 (kv .u8 top).toArray := ⟨_, rfl⟩
                    have P6 : Kp (Blk W6 A (.cells #[.int .i64 x0_0, .int .u32 x0_1, .int .u32 x0_2] 48)) := ⟨by rw [hW9]; exact (setRow_other _ g14 A _ (by omega)).trans hS.1⟩
                    have R6_l : Kp (Row W6 (A + 1 + 1) 32 .u8 x5) := ⟨by rw [hW9]; exact Row.otherRow hS.2.2.1 (by omega) _⟩
                    have Y6_6 : Kp (HoldsS W6 (.slice a6 len6 cap6) len6 z6) := ⟨by rw [hW9]; exact hS.2.2.2.1.off2 (fun h0 => wayb_off (HWB5_6.out h0) (by omega)) _⟩
                    have HT1 : Kp (HoldsP W6 (.slice a7 n7 c7) ts) := ⟨by rw [hW9]; exact p8.other _ hg HF.out⟩
                    have B6 : Kp (Below A w W6) := ⟨by rw [hW9]; exact Below.row hS.2.2.2.2.2 (by omega) _⟩
                    have HWk := Kp.mk hW9
                    clear h hS e7 e8 e9 p8 hg hW9 hn7 P5 B5 HM5 HMs5 hMg hbA5 R5_e hb5_e R5_l hb5_l Y5_6 HWB5_6
                    refine wpOps_step rfl rfl ?_
                    refine wp_store_rowD rfl 32 (.tmp 24) (.tmp 110) rfl g14 (kv .u8 top).toArray rfl rfl 32 _ HGA.out (cells49 HL_top.out.1) (size50 HL_top.out.1) (kv_all _ _) ?_
                    rw [← HWk.out]
                    clear HWk HGA
                    refine wpOps_step rfl rfl ?_
                    refine wp_assign_endD (d := some 25) (v := .slice a7 n7 c7) rfl rfl rfl ?_
                    simp only [Act.put, List.setIfInBounds_toArray, List.set_cons_zero, List.set_cons_succ]
                    refine wpOps_done ?_
                    go_wp2_with first
                      | (refine wpList_load_row rfl 48 (.tmp 8) rfl A rfl 48 _ (0, 0) _ P6.out Tryd.underlying48 rfl (cells48 x0_0 x0_1 x0_2) ?_)
                      | (refine wpList_load_row rfl 32 (.tmp 13) rfl (A + 1 + 1) rfl 32 _ (0, 0) _ R6_l.out Tryd.underlying32 rfl (cells49 HX5.out) ?_)
                    refine (rrise_any x0_0 x0_1 x0_2 x1 x2 x3 x5 a6 len6 cap6 z6 W6 HE.out HS.out HX5.out HB5.out Y6_6.out).mono ?_
                    rintro r w10 ⟨v5, rfl, k1, -, hb⟩
                    rw [HRS.out.1, HRS.out.2]
                    obtain ⟨a8, n8, c8, rfl, hn8⟩ := k1.slice
                    have HN8 := Kp.mk hn8
                    have HT2 := Kp.mk k1
                    have HT1b := Kp.mk (HT1.out.keep hb)
                    have B9 : Kp (Below A w w10) := ⟨B6.out.trans (hb.mono (Nat.le_of_lt P6.out.lt))⟩
                    have HA9 : Kp (A ≤ w10.heap.size) := ⟨by have := P6.out.lt; have := hb.size; omega⟩
                    clear k1 hb hn8 HT1 P6 B6 R6_l Y6_6
                    obtain ⟨W10, hW10⟩ : ∃ W, W = (w10.alloc z49).setRow w10.heap.size (kv .u8 u).toArray := ⟨_, rfl⟩
                    have hb9 : Below w10.heap.size w10 W10 := by rw [hW10]; exact Below.row (more (Below.refl _ _) z49) (Nat.le_refl _) _
                    have HT3 := Kp.mk (HT1b.out.keep hb9)
                    have HT4 := Kp.mk (HT2.out.keep hb9)
                    have B10 : Kp (Below A w W10) := ⟨B9.out.trans (hb9.mono HA9.out)⟩
                    have HA10 : Kp (A ≤ W10.heap.size) := ⟨by have := hb9.size; have := HA9.out; omega⟩
                    clear hb9 HT1b HT2 B9 HA9
                    go_wp2_with (refine wpList_store_row rfl 32 (.tmp 26) (.tmp 120) rfl w10.heap.size (kv .u8 u).toArray rfl rfl 32 _ (Blk.new w10 z49) (cells49 HL_u.out.1) (size50 HL_u.out.1) (kv_all _ _) ?_; refine wpl_world (· = W10) hW10.symm ?_; clear hW10; intro W0 e0; rw [e0]; clear e0)
                    have hcl : ClashP ts (riseT x0_0 x0_1 x0_2 x1 x5 x2 x3 z6 len6) := by
                      rw [HTe.out]
                      exact sound_clash x0_0 x0_1 x0_2 x1 x4 x5 x2 x3 z6 len6 k HOK.out HL.out HNK.out.1 HX5.out HW6.out.1 (by rw [HRS.out.1, HNK.out.2, HTop.out]) (by rw [← HZQ.out.1, ← HZQ.out.2.2]; exact HNE.out)
                    refine (clash_any a7 n7 c7 ts a8 n8 c8 _ W10 HT3.out HT4.out (by rw [HN7.out, HTe.out]; exact nodeT_cons _ _ _ _ _ HX4.out _ _) (by rw [HN8.out]; exact riseT_cons _ _ _ _ _ _ _ _ _ HX5.out HW6.out.1) (by rw [HN7.out, HTe.out, nodeT_len]; have h3 := HK3.out; rcases (show k = 0 ∨ k = 1 ∨ k = 2 ∨ k = 3 by omega) with h | h | h | h <;> rw [h] <;> decide) (by rw [HN8.out]; exact riseT_small _ _ _ _ _ _ _ _ _ HNK.out.1)).mono ?_
                    rintro r w11 ⟨x, rfl, hx, hb⟩
                    have hxt : x = true := hx.2 hcl
                    subst hxt
                    go_wp2_with fail
                    go_ret
                    exact ⟨rfl, by rw [← HA.out]; exact B10.out.trans (hb.mono HA10.out)⟩
              · have hq : ∀ w, (binOp .neq 33 (dgV u) (dgV top)).run Tryd.prog w = .ok (.bool true) w := fun w => by rw [neq33 HL_u.out.2 HL_top.out.2 HL_u.out.1 HL_top.out.1 w, decide_eq_false hut]; rfl
                go_wp2_with first
                  | (refine wpList_load_rowG rfl 33 (.tmp 22) rfl g9 rfl 33 _ (0, 0) _ R5_g9.out Tryd.underlying33 rfl (cells50 HL_u.out.1) ?_)
                  | (refine wpList_load_rowG rfl 33 (.tmp 20) rfl g8 rfl 33 _ (0, 0) _ R5_g8.out Tryd.underlying33 rfl (cells50 HL_top.out.1) ?_)
                clear hq hg
                go_ret
                exact ⟨rfl, by rw [← HA.out]; exact B5.out⟩
            · have hq9 : q9 = 22 := by rw [← HRS.out.2]; simp [riseF, HOK.out, hnk]
              subst hq9
              go_wp2_with fail
              go_ret
              exact ⟨rfl, by rw [← HA.out]; exact B5.out⟩
end Go.Proofs.YtahmioiefmheeaaDoor
