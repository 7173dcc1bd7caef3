/-
  The law OtsDigits, walked.
  Arguments that came in: an array of bytes by value; a slice of numbers of 64 bits.
-/
import Derived.Test.YtpljjmdkagbjpaaDg08
import Derived.OpenShut
import Derived.SizedLaws
namespace Go.Proofs.Ytpljjmdkagbjpaa
open Go.RowKit

theorem eqInA33 {p : List Int} (hb : Bytes p) (h : p.length = 68) (w : World) : (Op.equalIn 10000 33 (.agg (kv .u8 p).toArray) (.agg (kv .u8 p).toArray)).run Try.prog w = .ok true w := by
  have := run_equalIn_bytes (P := Try.prog) w 9998 33 5 68 Try.underlying33 Try.underlying5 size5 (p.map fun n => UInt8.ofNat n.toNat) (p.map fun n => UInt8.ofNat n.toNat) (by simp [h]) (by simp [h])
  rw [bv_cells hb] at this
  simpa using this
theorem eqlA33 {p : List Int} (h : p.length = 68) (hb : Bytes p) (w : World) : (binOp .eql 33 (.agg (kv .u8 p).toArray) (.agg (kv .u8 p).toArray)).run Try.prog w = .ok (.bool true) w := by
  rw [run_eql_struct, eqInA33 hb h w]
  rfl
theorem eqgA33 (p q : List Int) (x y : Operand) (w : World) : (eqGuard .eql 33 x y (.agg (kv .u8 p).toArray) (.agg (kv .u8 q).toArray)).run Try.prog w = .ok () w := by kernel_rfl
theorem built29 : Try.prog.built 29 [] = some (kv .u8 (List.replicate 1088 0)).toArray := by kernel_rfl
theorem wpList_build_eq {P : Program} {ops : Array Oper} {rest : List Oper} {o : Oper} {a : Act} {w : World} {Q : Exit → Act → World → Prop} (hg : o.guard = none) (t : TypeId) (ho : o.op = .build t #[]) (cells : Array Value)
    (hb : P.built t [] = some cells) (h : wpList P ops Q rest (a.put o.dst (.agg cells)) w) : wpList P ops Q (o :: rest) a w := by
  refine wpList_build hg t #[] ho ?_ ?_
  · simp [hb]
  · simpa [hb] using h
theorem linkT_len {d x c s : Int} {z : List Int} (hz : z.length = 16) : (linkT d x c s z).length = 24 := by
  simp [linkT, headL_len, hz]
theorem runT_small (d x c f : Int) {z : List Int} (hz : z.length = 16) : ∀ k, ∀ t ∈ runT d x c f z k, t.length = 24
  | 0, t, h => by cases h
  | k + 1, t, h => by
    rw [runT] at h
    rcases List.mem_append.1 h with h1 | h1
    · exact runT_small d x c f hz k t h1
    · rw [List.mem_singleton.1 h1]; exact linkT_len (runS_len _ _ _ _ hz _)
theorem recTL_small (d x : Int) (m : List Int) {S : List Int} (hS : S.length = 1088) (hb : Bytes S) : ∀ n, n ≤ 68 → ∀ t ∈ recTL d x m S n, t.length = 24
  | 0, _, t, h => by cases h
  | n + 1, hn, t, h => by
    rw [recTL] at h
    rcases List.mem_append.1 h with h1 | h1
    · exact recTL_small d x m hS hb n (by omega) t h1
    · exact runT_small _ _ _ _ (linkAt_len (recL_ok d x m hS hb n (by omega)).1 (by omega)) _ t h1
theorem wholeT_len {d x : Int} {S : List Int} (h : S.length = 1088) : (wholeT d x S).length = 1094 := by simp [wholeT, headL_len, h]
theorem recTL_cost (d x : Int) (m S : List Int) : ∀ n, ((recTL d x m S n).length : Int) + 18 = costU m n
  | 0 => rfl
  | n + 1 => by
    have h := recTL_cost d x m S n
    obtain ⟨h1, h2⟩ := dgt_is m n
    rw [recTL, List.length_append, runT_len]
    show _ = costU m n + (3 - digA m n)
    omega
/-- The blocks behind k texts, where L take one, and a last one 18. -/
def blU (L k : Nat) : Int := if k ≤ L then (k : Int) else L + 18
theorem blU_lo {L k : Nat} (h : k < L) : 1 + blU L k = blU L (k + 1) := by
  unfold blU
  rw [if_pos (show k ≤ L by omega), if_pos (show k + 1 ≤ L by omega)]
  omega
theorem blU_hi (L : Nat) : 18 + blU L L = blU L (L + 1) := by
  unfold blU
  rw [if_pos (Nat.le_refl L), if_neg (show ¬ L + 1 ≤ L by omega)]
  omega
theorem blU_range {L k : Nat} (hL : L ≤ 204) : 0 ≤ blU L k ∧ blU L k ≤ 1000 := by
  unfold blU
  split <;> omega
set_option maxRecDepth 100000 in
set_option maxHeartbeats 8000000 in
theorem otsDigits_core (d x : Int) (m : List Int) (w : World) (hm : m.length = 16) (hmb : Bytes m) (hx : 0 ≤ x ∧ x < 4294967296) :
    Calls Try.prog 3 #[dgV m, nameV d x] w fun e w' => e = .returned (.bool true) ∧ Below w.heap.size w w' := by
  have HX := Kp.mk hx
  have HM := Kp.mk (And.intro hm hmb)
  have hC := fun (w : World) => box_row (t := 22) (cs := kv .u8 m) (cellsT25 hm) w
  have HC := Kp.mk (cellsT25 hm)
  obtain ⟨zs, hzs⟩ : ∃ zs : List Int, zs = List.replicate 1088 0 := ⟨_, rfl⟩
  have HZs : Kp (List.replicate 1088 0 = zs) := ⟨hzs.symm⟩
  have HZl : Kp (zs.length = 1088) := ⟨by rw [hzs, List.length_replicate]⟩
  have HZb : Kp (Bytes zs) := ⟨by rw [hzs]; intro y hy; have := (List.mem_replicate.1 hy).2; omega⟩
  clear hm hmb hx hzs
  go_enter Try.func3, Try.ntmps3
  go_wp2_with (first
    | (refine wpList_box_eq rfl 22 (.tmp 0) rfl _ rfl _ _ (hC _) ?_)
    | (refine wpList_load_row rfl 25 (.tmp 3) rfl (w.heap.size + 1) rfl 25 _ (0, 0) _ (Blk.newAt _ (by simp)) Try.underlying25 rfl (cellsN24 d x) ?_)
    | (refine wpList_load_row rfl 22 (.tmp 2) rfl w.heap.size rfl 22 (kv .u8 m).toArray (0, 0) _ (Blk.old (Blk.newAt _ rfl) _) Try.underlying22 rfl HC.out ?_)
    | (refine wpList_build_eq rfl 29 rfl (kv .u8 zs).toArray (by rw [← HZs.out]; exact built29) ?_))
  obtain ⟨A, hA⟩ : ∃ A, A = w.heap.size := ⟨_, rfl⟩
  have HA := Kp.mk hA
  rw [← hA]
  refine calls_world (fun W => Row W A 22 .u8 m ∧ Below A w W) ⟨?_, ?_⟩ ?_
  · exact Blk.old (Blk.newAt _ hA) _
  · rw [hA]; exact more (more (Below.refl _ _) _) _
  clear hA hC
  rintro W ⟨h1, h4⟩
  refine (rrecover_any d x m zs W HX.out HM.out.1 HM.out.2 HZl.out HZb.out).mono ?_
  rintro q w1 ⟨v, rfl, hT, hb⟩
  obtain ⟨q0, hq⟩ : ∃ q, q = shortL (wholeT d x (recL d x m zs 68)) := ⟨_, rfl⟩
  rw [← hq]
  have HQl : Kp (q0.length = 16) := ⟨by rw [hq]; exact shortL_len _⟩
  have HCq := Kp.mk (cellsT25 HQl.out)
  have HZq := Kp.mk (size50 HQl.out)
  obtain ⟨K, hK⟩ : ∃ K, K = W.heap.size := ⟨_, rfl⟩
  rw [← hK] at hT
  obtain ⟨us, hus⟩ : ∃ us, us = recTL d x m zs 68 ++ [wholeT d x (recL d x m zs 68)] := ⟨_, rfl⟩
  rw [← hus] at hT
  have HUH : Kp (Heads us) := ⟨by rw [hus]; exact (recTL_heads d x m zs 68).append (Heads.one (by decide))⟩
  obtain ⟨L, hL⟩ : ∃ L, L = (recTL d x m zs 68).length := ⟨_, rfl⟩
  have HUL : Kp (us.length = L + 1) := ⟨by rw [hus, List.length_append, hL]; rfl⟩
  have HUT : Kp (∀ k, k < L → (us.getD k []).length = 24) := ⟨fun k hk => by
    rw [hL] at hk
    rw [hus, List.getD_eq_getElem?_getD, List.getElem?_append_left hk, List.getElem?_eq_getElem hk]
    exact recTL_small d x m HZl.out HZb.out 68 (Nat.le_refl _) _ (List.getElem_mem hk)⟩
  have HUW : Kp ((us.getD L []).length = 1094) := ⟨by
    rw [hus, hL, List.getD_eq_getElem?_getD, List.getElem?_append_right (Nat.le_refl _), Nat.sub_self]
    exact wholeT_len (recL_ok d x m HZl.out HZb.out 68 (Nat.le_refl _)).1⟩
  have HLC : Kp ((L : Int) + 18 = costU m 68) := ⟨by rw [hL]; exact recTL_cost d x m zs 68⟩
  have HL204 : Kp (L ≤ 204) := ⟨by have := recTL_len d x m zs 68; omega⟩
  obtain ⟨E, hE⟩ : ∃ E, E = w1.heap.size := ⟨_, rfl⟩
  have HEe := Kp.mk hE
  have C1 := Kp.mk (h1.keep hb)
  have C4 : Kp (Below A w w1) := ⟨h4.trans (hb.mono (Nat.le_of_lt h1.lt))⟩
  have CT := Kp.mk (hT.below (more (Below.refl _ _) z16r))
  have hAE : A < E := by rw [hE]; exact C1.out.lt
  obtain ⟨V, hV⟩ : ∃ V, V = (w1.alloc z16r).setRow E (kv .u8 q0).toArray := ⟨_, rfl⟩
  have L1 : Kp (Row V A 22 .u8 m) := ⟨by rw [hV]; exact Row.otherRow (Row.alloc C1.out _) (by omega) _⟩
  have LT : Kp (HoldsP V v us) := ⟨by rw [hV]; exact (CT.out.zero (Blk.newAt z16r hE) HUH.out _).holds⟩
  have L4 : Kp (Below A w V) := ⟨by rw [hV]; exact Below.row (C4.out.alloc (by have := C1.out.lt; omega) _) (by omega) _⟩
  have HV := Kp.mk hV.symm
  obtain ⟨a1, n1, c1, rfl, hn1⟩ := LT.out.slice
  have HN1 : Kp (n1 = L + 1) := ⟨by rw [hn1]; exact HUL.out⟩
  clear h1 h4 hb hT hq hK hus hL hE hV hn1 C1 C4 CT HUH
  go_wp2_with (rw [← HEe.out]; refine wpList_store_row rfl 22 (.tmp 5) (.tmp 15) rfl E (kv .u8 q0).toArray rfl rfl 22 _ (Blk.newAt z16r HEe.out) HCq.out HZq.out (kv_all _ _) ?_; refine wpl_world (· = V) HV.out ?_; clear HV; intro W0 e0; rw [e0]; clear e0)
  clear HEe
  go_loop [7, 9, 19] (fun b _ i => ∃ k : Nat, k ≤ n1 ∧ i = .int .i64 k ∧ b = .int .i64 (blU L k)) (fun _ _ i => n1 - (intOf i).toNat)
  case atStart => exact ⟨0, by omega, rfl, rfl⟩
  case round =>
    obtain ⟨k, hk, rfl, rfl⟩ := hrel
    by_cases hlt : k < n1
    · have hlt' : (k : Int) < (n1 : Int) := by omega
      obtain ⟨aa, cc, e0, hm9, hall⟩ := LT.out
      obtain ⟨b, off, a2, n2, c2, e1, hbl, hcell, hh⟩ := hall k (by rw [HUL.out, ← HN1.out]; exact hlt)
      simp only [Value.slice.injEq] at e0
      obtain ⟨rfl, -, rfl⟩ := e0
      subst e1
      have hn2 : n2 = (us.getD k []).length := by obtain ⟨_, _, h1, _⟩ := hh; simp only [Value.slice.injEq] at h1; exact h1.2.1
      have hfro : True := trivial
      have hbl0 : 0 ≤ blU L k ∧ blU L k ≤ 1000 := blU_range HL204.out
      have hkL : k ≤ L := by have := HN1.out; omega
      have hk300 : k ≤ 300 := by have := HL204.out; omega
      have HBI : Kp (blkI n2 + blU L k = blU L (k + 1) ∧ 0 ≤ blkI n2 ∧ blkI n2 ≤ 18 ∧ n2 ≤ 2000) := ⟨by
        have h1 := HUT.out k; have h2 := HUW.out; have h3 := HN1.out
        by_cases hkl : k < L
        · rw [hn2, h1 hkl]
          refine ⟨?_, by decide, by decide, by omega⟩
          have hb1 : blkI ((24 : Nat) : Int) = 1 := by decide
          rw [hb1]; exact blU_lo hkl
        · have : k = L := by omega
          rw [hn2, this, h2]
          refine ⟨?_, by decide, by decide, by omega⟩
          have hb1 : blkI ((1094 : Nat) : Int) = 18 := by decide
          rw [hb1]; exact blU_hi L⟩
      obtain ⟨hq1, hq2, hq3, hq4⟩ := HBI.out
      have HBN : Kp (blkI n2 + blU L k = blU L (k + 1)) := ⟨hq1⟩
      clear hq1 hn2 hall hm9 hh HBI
      generalize blU L k = bb at *
      go_wp2_with fail
      refine (blocks_any _ _ (by omega)).mono ?_
      rintro r w2 ⟨rfl, rfl⟩
      generalize blkI (n2 : Int) = bn at *
      go_wp2_with fail
      go_round
      case rel => exact ⟨k + 1, by omega, by go_num, by rw [← HBN.out]; congr 1; omega⟩
      case measure => simp [intOf]; omega
    · obtain rfl : k = n1 := by omega
      have hge : ¬ (k : Int) < (k : Int) := by omega
      have HBL : Kp (blU L k = costU m 68) := ⟨by rw [HN1.out, ← HLC.out]; unfold blU; rw [if_neg (by omega)]⟩
      rw [HBL.out]
      obtain ⟨C, hCe⟩ : ∃ C, C = costU m 68 := ⟨_, rfl⟩
      have HCe : Kp (costU m 68 = C) := ⟨hCe.symm⟩
      have HCr : Kp (18 ≤ C ∧ C ≤ 222) := ⟨by rw [hCe]; have := costU_range m 68; omega⟩
      rw [← hCe]
      obtain ⟨dl, hdl⟩ : ∃ dl, dl = digS m := ⟨_, rfl⟩
      have HDL : Kp (digS m = dl) := ⟨hdl.symm⟩
      have HDl : Kp (dl.length = 68 ∧ Bytes dl) := ⟨by rw [hdl]; exact ⟨digS_len m, fun y hy => by obtain ⟨i, hi, rfl⟩ := List.getElem_of_mem hy; have h := digS_at m (c := i) (by rw [digS_len] at hi; exact hi); rw [List.getD_eq_getElem?_getD, List.getElem?_eq_getElem hi] at h; have := digA_range m i; simp only [Option.getD_some] at h; omega⟩⟩
      clear hCe hdl HBL HLC HUT HUW LT
      go_wp2_with fail
      refine wp_region_pred (fun w' => Row w' A 22 .u8 m ∧ Below A w w') [0, 1, 2, 3, 4, 5, 6, 7, 8, 9, 10, 11, 12, 13, 14, 15, 16, 17, 18, 19, 20, 21, 22, 23, 24, 25] [26]
        (fun ι w' v => match ι with
          | 2 | 4 | 9 | 11 | 16 | 22 => v = dgV m
          | 3 | 5 => v = .agg (kv .u8 dl).toArray
          | 10 | 12 | 17 | 21 | 23 => v = .int .i64 C
          | _ => v = .bool true)
        [[], [(0, some 29)], [(1, some 30)], [(1, some 30), (2, some 31)], [(1, some 30)], [(1, some 30), (3, some 32), (4, some 33)], [(1, some 30), (3, some 32), (5, some 34)], [(1, some 30), (6, some 35)], [(5, some 34), (7, some 36)], [(8, some 37)], [(8, some 37), (9, some 38)], [(8, some 37)], [(8, some 37), (10, some 39), (11, some 40)], [(8, some 37), (10, some 39), (12, some 41)], [(8, some 37), (13, some 42)], [(12, some 41), (14, some 43)], [(15, some 44)], [(15, some 44), (16, some 45)], [(15, some 44), (17, some 46)], [(15, some 44), (18, some 47)], [(17, some 46), (19, some 48)], [(20, some 49)], [(20, some 49)], [(20, some 49), (22, some 51)], [(20, some 49), (21, some 50), (23, some 52)], [(20, some 49), (24, some 53)]]
        [(0, some 29), (1, some 30), (2, some 31), (3, some 32), (4, some 33), (5, some 34), (6, some 35), (7, some 36), (8, some 37), (9, some 38), (10, some 39), (11, some 40), (12, some 41), (13, some 42), (14, some 43), (15, some 44), (16, some 45), (17, some 46), (18, some 47), (19, some 48), (20, some 49), (21, some 50), (22, some 51), (23, some 52), (24, some 53), (25, some 54)]
        (by kernel_rfl) (by kernel_rfl) (by kernel_rfl) (by kernel_rfl) (by kernel_rfl) (by kernel_rfl) (by decide) (by decide) (fun w1 w2 h hb => ⟨h.1.keep hb, h.2.trans (hb.mono (Nat.le_of_lt h.1.lt))⟩) ?_ ⟨L1.out.drew, L4.out.drew⟩ ?_ ?_
      · intro ι w1 w2 v h hb
        match ι, h with
        | 0, h => exact h
        | 1, h => exact h
        | 2, h => exact h
        | 3, h => exact h
        | 4, h => exact h
        | 5, h => exact h
        | 6, h => exact h
        | 7, h => exact h
        | 8, h => exact h
        | 9, h => exact h
        | 10, h => exact h
        | 11, h => exact h
        | 12, h => exact h
        | 13, h => exact h
        | 14, h => exact h
        | 15, h => exact h
        | 16, h => exact h
        | 17, h => exact h
        | 18, h => exact h
        | 19, h => exact h
        | 20, h => exact h
        | 21, h => exact h
        | 22, h => exact h
        | 23, h => exact h
        | 24, h => exact h
        | 25, h => exact h
        | _ + 26, h => exact h
      · refine ⟨fun γ wx hS h => ?_, fun γ wx hS h => ?_, fun γ wx hS h => ?_, fun γ wx hS h => ?_, fun γ wx hS h => ?_, fun γ wx hS h => ?_, fun γ wx hS h => ?_, fun γ wx hS h => ?_, fun γ wx hS h => ?_, fun γ wx hS h => ?_, fun γ wx hS h => ?_, fun γ wx hS h => ?_, fun γ wx hS h => ?_, fun γ wx hS h => ?_, fun γ wx hS h => ?_, fun γ wx hS h => ?_, fun γ wx hS h => ?_, fun γ wx hS h => ?_, fun γ wx hS h => ?_, fun γ wx hS h => ?_, fun γ wx hS h => ?_, fun γ wx hS h => ?_, fun γ wx hS h => ?_, fun γ wx hS h => ?_, fun γ wx hS h => ?_, fun γ wx hS h => ?_, trivial⟩
        · refine ⟨_, rfl, Or.inl ⟨rfl, predRun_call (f := 7) (args := #[]) (by simp only [putE]; go_simp) ?_⟩⟩
          exact (awake_any wx).mono fun e w2 ⟨h1, h2⟩ => ⟨_, h1, rfl, h2⟩
        · have h0 := h
          have e0 : γ 0 = .bool true := h0
          refine ⟨_, rfl, Or.inl ⟨rfl, predRun_value (v := .bool true) (by simp only [putE, e0]; first | rfl | (go_simp; done) | (go_simp; with_reducible rfl) | (go_simp; rfl)) rfl⟩⟩
        · have h1 := h
          have e1 : γ 1 = .bool true := h1
          refine ⟨_, rfl, Or.inl ⟨(by simp only [putE, e1]; first | kernel_rfl | rfl), predRun_value (exec_load_blk 22 (.tmp 2) rfl (A) rfl 22 _ (0, 0) _ hS.1 Try.underlying22 rfl (cellsT25 HM.out.1)) rfl⟩⟩
        · obtain ⟨h1, h2⟩ := h
          have e1 : γ 1 = .bool true := h1
          have e2 : γ 2 = dgV m := h2
          refine ⟨_, rfl, Or.inl ⟨(by simp only [putE, e1, e2]; first | kernel_rfl | rfl), predRun_call (f := 8) (args := #[dgV m]) (by simp only [putE, e1, e2]; go_simp) ?_⟩⟩
          exact (digits_any m wx HM.out.1 HM.out.2).mono fun e w2 ⟨h1, h2⟩ => ⟨_, h1, (show Value.agg (kv .u8 (digS m)).toArray = .agg (kv .u8 dl).toArray by rw [HDL.out]), h2⟩
        · have h1 := h
          have e1 : γ 1 = .bool true := h1
          refine ⟨_, rfl, Or.inl ⟨(by simp only [putE, e1]; first | kernel_rfl | rfl), predRun_value (exec_load_blk 22 (.tmp 2) rfl (A) rfl 22 _ (0, 0) _ hS.1 Try.underlying22 rfl (cellsT25 HM.out.1)) rfl⟩⟩
        · obtain ⟨h1, h3, h4⟩ := h
          have e1 : γ 1 = .bool true := h1
          have e3 : γ 3 = .agg (kv .u8 dl).toArray := h3
          have e4 : γ 4 = dgV m := h4
          refine ⟨_, rfl, Or.inl ⟨(by simp only [putE, e1, e3, e4]; first | kernel_rfl | rfl), predRun_call (f := 9) (args := #[dgV m]) (by simp only [putE, e1, e3, e4]; go_simp) ?_⟩⟩
          exact (rdigits_any m wx HM.out.1 HM.out.2).mono fun e w2 ⟨h1, h2⟩ => ⟨_, h1, (show Value.agg (kv .u8 (digS m)).toArray = .agg (kv .u8 dl).toArray by rw [HDL.out]), h2⟩
        · obtain ⟨h1, h3, h5⟩ := h
          have e1 : γ 1 = .bool true := h1
          have e3 : γ 3 = .agg (kv .u8 dl).toArray := h3
          have e5 : γ 5 = .agg (kv .u8 dl).toArray := h5
          refine ⟨_, rfl, Or.inl ⟨(by simp only [putE, e1, e3, e5]; first | kernel_rfl | rfl), predRun_value (v := .bool true) (by simp only [putE, e1, e3, e5]; have hg := eqgA33 dl dl; have he := eqlA33 HDl.out.1 HDl.out.2; first | rfl | (go_simp; done) | (go_simp; with_reducible rfl) | (go_simp; rfl)) rfl⟩⟩
        · obtain ⟨h1, h6⟩ := h
          have e1 : γ 1 = .bool true := h1
          have e6 : γ 6 = .bool true := h6
          refine ⟨_, rfl, Or.inl ⟨rfl, predRun_value (v := .bool true) (by simp only [putE, e1, e6]; first | rfl | (go_simp; done) | (go_simp; with_reducible rfl) | (go_simp; rfl)) rfl⟩⟩
        · obtain ⟨h5, h7⟩ := h
          have e5 : γ 5 = .agg (kv .u8 dl).toArray := h5
          have e7 : γ 7 = .bool true := h7
          refine ⟨_, rfl, Or.inl ⟨rfl, predRun_value (v := .bool true) (by simp only [putE, e5, e7]; first | rfl | (go_simp; done) | (go_simp; with_reducible rfl) | (go_simp; rfl)) rfl⟩⟩
        · have h8 := h
          have e8 : γ 8 = .bool true := h8
          refine ⟨_, rfl, Or.inl ⟨(by simp only [putE, e8]; first | kernel_rfl | rfl), predRun_value (exec_load_blk 22 (.tmp 2) rfl (A) rfl 22 _ (0, 0) _ hS.1 Try.underlying22 rfl (cellsT25 HM.out.1)) rfl⟩⟩
        · obtain ⟨h8, h9⟩ := h
          have e8 : γ 8 = .bool true := h8
          have e9 : γ 9 = dgV m := h9
          refine ⟨_, rfl, Or.inl ⟨(by simp only [putE, e8, e9]; first | kernel_rfl | rfl), predRun_call (f := 10) (args := #[dgV m]) (by simp only [putE, e8, e9]; go_simp) ?_⟩⟩
          exact (cost_any m wx HM.out.1 HM.out.2).mono fun e w2 ⟨h1, h2⟩ => ⟨_, h1, (show Value.int .i64 (costU m 68) = .int .i64 C by rw [HCe.out]), h2⟩
        · have h8 := h
          have e8 : γ 8 = .bool true := h8
          refine ⟨_, rfl, Or.inl ⟨(by simp only [putE, e8]; first | kernel_rfl | rfl), predRun_value (exec_load_blk 22 (.tmp 2) rfl (A) rfl 22 _ (0, 0) _ hS.1 Try.underlying22 rfl (cellsT25 HM.out.1)) rfl⟩⟩
        · obtain ⟨h8, h10, h11⟩ := h
          have e8 : γ 8 = .bool true := h8
          have e10 : γ 10 = .int .i64 C := h10
          have e11 : γ 11 = dgV m := h11
          refine ⟨_, rfl, Or.inl ⟨(by simp only [putE, e8, e10, e11]; first | kernel_rfl | rfl), predRun_call (f := 11) (args := #[dgV m]) (by simp only [putE, e8, e10, e11]; go_simp) ?_⟩⟩
          exact (rcost_any m wx HM.out.1 HM.out.2).mono fun e w2 ⟨h1, h2⟩ => ⟨_, h1, (show Value.int .i64 (costU m 68) = .int .i64 C by rw [HCe.out]), h2⟩
        · obtain ⟨h8, h10, h12⟩ := h
          have e8 : γ 8 = .bool true := h8
          have e10 : γ 10 = .int .i64 C := h10
          have e12 : γ 12 = .int .i64 C := h12
          refine ⟨_, rfl, Or.inl ⟨(by simp only [putE, e8, e10, e12]; first | kernel_rfl | rfl), predRun_value (v := .bool true) (by simp only [putE, e8, e10, e12]; first | rfl | (go_simp; done) | (go_simp; with_reducible rfl) | (go_simp; rfl)) rfl⟩⟩
        · obtain ⟨h8, h13⟩ := h
          have e8 : γ 8 = .bool true := h8
          have e13 : γ 13 = .bool true := h13
          refine ⟨_, rfl, Or.inl ⟨rfl, predRun_value (v := .bool true) (by simp only [putE, e8, e13]; first | rfl | (go_simp; done) | (go_simp; with_reducible rfl) | (go_simp; rfl)) rfl⟩⟩
        · obtain ⟨h12, h14⟩ := h
          have e12 : γ 12 = .int .i64 C := h12
          have e14 : γ 14 = .bool true := h14
          refine ⟨_, rfl, Or.inl ⟨rfl, predRun_value (v := .bool true) (by simp only [putE, e12, e14]; first | rfl | (go_simp; done) | (go_simp; with_reducible rfl) | (go_simp; rfl)) rfl⟩⟩
        · have h15 := h
          have e15 : γ 15 = .bool true := h15
          refine ⟨_, rfl, Or.inl ⟨(by simp only [putE, e15]; first | kernel_rfl | rfl), predRun_value (exec_load_blk 22 (.tmp 2) rfl (A) rfl 22 _ (0, 0) _ hS.1 Try.underlying22 rfl (cellsT25 HM.out.1)) rfl⟩⟩
        · obtain ⟨h15, h16⟩ := h
          have e15 : γ 15 = .bool true := h15
          have e16 : γ 16 = dgV m := h16
          refine ⟨_, rfl, Or.inl ⟨(by simp only [putE, e15, e16]; first | kernel_rfl | rfl), predRun_call (f := 10) (args := #[dgV m]) (by simp only [putE, e15, e16]; go_simp) ?_⟩⟩
          exact (cost_any m wx HM.out.1 HM.out.2).mono fun e w2 ⟨h1, h2⟩ => ⟨_, h1, (show Value.int .i64 (costU m 68) = .int .i64 C by rw [HCe.out]), h2⟩
        · obtain ⟨h15, h17⟩ := h
          have e15 : γ 15 = .bool true := h15
          have e17 : γ 17 = .int .i64 C := h17
          refine ⟨_, rfl, Or.inl ⟨(by simp only [putE, e15, e17]; first | kernel_rfl | rfl), predRun_value (v := .bool true) (by simp only [putE, e15, e17]; have hb2 := HCr.out.2; first | rfl | (go_simp; done) | (go_simp; with_reducible rfl) | (go_simp; rfl)) rfl⟩⟩
        · obtain ⟨h15, h18⟩ := h
          have e15 : γ 15 = .bool true := h15
          have e18 : γ 18 = .bool true := h18
          refine ⟨_, rfl, Or.inl ⟨rfl, predRun_value (v := .bool true) (by simp only [putE, e15, e18]; first | rfl | (go_simp; done) | (go_simp; with_reducible rfl) | (go_simp; rfl)) rfl⟩⟩
        · obtain ⟨h17, h19⟩ := h
          have e17 : γ 17 = .int .i64 C := h17
          have e19 : γ 19 = .bool true := h19
          refine ⟨_, rfl, Or.inl ⟨rfl, predRun_value (v := .bool true) (by simp only [putE, e17, e19]; first | rfl | (go_simp; done) | (go_simp; with_reducible rfl) | (go_simp; rfl)) rfl⟩⟩
        · have h20 := h
          have e20 : γ 20 = .bool true := h20
          refine ⟨_, rfl, Or.inl ⟨(by simp only [putE, e20]; first | kernel_rfl | rfl), predRun_value (v := .int .i64 C) (by simp only [putE, e20]; first | rfl | (go_simp; done) | (go_simp; with_reducible rfl) | (go_simp; rfl)) rfl⟩⟩
        · have h20 := h
          have e20 : γ 20 = .bool true := h20
          refine ⟨_, rfl, Or.inl ⟨(by simp only [putE, e20]; first | kernel_rfl | rfl), predRun_value (exec_load_blk 22 (.tmp 2) rfl (A) rfl 22 _ (0, 0) _ hS.1 Try.underlying22 rfl (cellsT25 HM.out.1)) rfl⟩⟩
        · obtain ⟨h20, h22⟩ := h
          have e20 : γ 20 = .bool true := h20
          have e22 : γ 22 = dgV m := h22
          refine ⟨_, rfl, Or.inl ⟨(by simp only [putE, e20, e22]; first | kernel_rfl | rfl), predRun_call (f := 10) (args := #[dgV m]) (by simp only [putE, e20, e22]; go_simp) ?_⟩⟩
          exact (cost_any m wx HM.out.1 HM.out.2).mono fun e w2 ⟨h1, h2⟩ => ⟨_, h1, (show Value.int .i64 (costU m 68) = .int .i64 C by rw [HCe.out]), h2⟩
        · obtain ⟨h20, h21, h23⟩ := h
          have e20 : γ 20 = .bool true := h20
          have e21 : γ 21 = .int .i64 C := h21
          have e23 : γ 23 = .int .i64 C := h23
          refine ⟨_, rfl, Or.inl ⟨(by simp only [putE, e20, e21, e23]; first | kernel_rfl | rfl), predRun_value (v := .bool true) (by simp only [putE, e20, e21, e23]; first | rfl | (go_simp; done) | (go_simp; with_reducible rfl) | (go_simp; rfl)) rfl⟩⟩
        · obtain ⟨h20, h24⟩ := h
          have e20 : γ 20 = .bool true := h20
          have e24 : γ 24 = .bool true := h24
          refine ⟨_, rfl, Or.inl ⟨rfl, predRun_value (v := .bool true) (by simp only [putE, e20, e24]; first | rfl | (go_simp; done) | (go_simp; with_reducible rfl) | (go_simp; rfl)) rfl⟩⟩
      · intro γ w9 hS h
        have h25 : γ 25 = .bool true := h.2.2.2.2.2.2.2.2.2.2.2.2.2.2.2.2.2.2.2.2.2.2.2.2.2
        have HB := Kp.mk hS.2
        simp only [putE, Act.put, List.setIfInBounds_toArray, List.set_cons_zero, List.set_cons_succ]
        rw [h25]
        clear h hS h25 L1 L4
        refine wpOps_step rfl rfl ?_
        refine wp_assign_end rfl rfl ?_
        refine wpOps_done ?_
        go_wp2_with fail
        go_ret
        exact ⟨rfl, by rw [← HA.out]; exact HB.out⟩
theorem otsDigits_walk (x0 : List Int) (x1_0 x1_1 : Int) (w : World) (l0 : x0.length = 16) (b0 : Bytes x0) (_w1_0 : (Lit.int .i64 x1_0).wf = true) (w1_1 : (Lit.int .u32 x1_1).wf = true) :
    Calls Try.prog 3 #[.agg (kv .u8 x0).toArray, .agg #[.int .i64 x1_0, .int .u32 x1_1]] w fun e w' => e = .returned (.bool true) ∧ Below w.heap.size w w' :=
  otsDigits_core x1_0 x1_1 x0 w l0 b0 (by have hb1 : IntKind.u32.min = 0 := rfl; have hb2 : IntKind.u32.max = 4294967295 := rfl; simp [Lit.wf, hb1, hb2] at w1_1; omega)
end Go.Proofs.Ytpljjmdkagbjpaa

namespace Go.Proofs.Ytpljjmdkagbjpaa
open Go.ChangeShapes Go.WideShapes Go.ChangeAt Go.RowKit Go.Deep

theorem okWide_arr {P : Program} {w : World} {r : Reach} {base : Nat} {t e : TypeId} {n : Nat} {v : Value} (ht : P.underlying t = some (.array n e)) (h : Value.okWide P w r base t v) : ∃ cs, v = .agg cs ∧ cs.size = P.cellsOf t := by
  simp only [Value.okWide, ht] at h
  obtain ⟨cs, h1, h2, _⟩ := h
  exact ⟨cs, h1, h2⟩
set_option maxRecDepth 100000 in
/-- An array of bytes that came in by value. -/
theorem open_bytes {H : Type} {enc : TypeId × Value → H} {W : World} {r : Reach} {base b0 : Nat} {spare held : Bool} {t : TypeId} {n : Nat} {v : Value} {d : DataW H} {p : List MemPlace}
    (ht : Try.prog.underlying t = some (.array n 5)) (hC : Try.prog.cellsOf t = n) (hv : Value.okWide Try.prog W r b0 t v) (h : DataW.Trod enc Try.prog W base (fun _ => spare) held t v d p) :
    ∃ l : List Int, v = .agg (kv .u8 l).toArray ∧ l.length = n ∧ Bytes l := by
  have c5 : Try.prog.cellsOf 5 = 1 := by kernel_rfl
  obtain ⟨cs, rfl, hsz⟩ := okWide_arr ht hv
  obtain ⟨fuel, hf⟩ := h
  obtain ⟨xs, m, rfl, hx, hlen, hn, hel⟩ := DataW.trod_array ht hf
  have hcl : cs.size = n := hsz.trans hC
  have each : ∀ i, i < n → ∃ z : Int, cs.toList[i]? = some (.int .u8 z) ∧ 0 ≤ z ∧ z ≤ 255 := fun i hi => by
    have he := hel i hi
    rw [c5, Nat.mul_one] at he
    rw [List.getElem?_eq_getElem (by omega)] at he
    obtain ⟨k, e1, _, wk⟩ := DataW.trod_int Try.underlying5 he
    have h1 : IntKind.u8.min = 0 := rfl
    have h2 : IntKind.u8.max = 255 := rfl
    simp [Lit.wf, h1, h2] at wk
    refine ⟨k, ?_, wk⟩
    have h4 := congrArg (fun l : List Value => l[0]?) e1
    simp only [List.getElem?_take, List.getElem?_drop, Nat.lt_one_iff, if_true, Nat.add_zero] at h4
    simpa [Value.cells] using h4
  obtain ⟨f, hf'⟩ : ∃ f : Nat → Int, ∀ i, i < n → cs.toList[i]? = some (.int .u8 (f i)) ∧ 0 ≤ f i ∧ f i ≤ 255 := by
    refine ⟨fun i => if h : i < n then Classical.choose (each i h) else 0, fun i hi => ?_⟩
    simp only [hi, dif_pos]
    exact Classical.choose_spec (each i hi)
  refine ⟨(List.range n).map f, ?_, by simp, fun z hz => ?_⟩
  · congr 1
    apply Array.toList_inj.1
    apply List.ext_getElem?
    intro i
    by_cases hi : i < n
    · rw [(hf' i hi).1]
      simp [List.getElem?_range hi]
    · rw [List.getElem?_eq_none (by simp; omega), List.getElem?_eq_none (by simp; omega)]
  · obtain ⟨i, hi, rfl⟩ := List.mem_map.1 hz
    exact (hf' i (List.mem_range.1 hi)).2
end Go.Proofs.Ytpljjmdkagbjpaa
