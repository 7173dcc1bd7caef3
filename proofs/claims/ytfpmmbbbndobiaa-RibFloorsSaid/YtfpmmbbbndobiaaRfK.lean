/-
  No route is worse than its floor: the walk.
-/
import Derived.Test.YtfpmmbbbndobiaaRfJ
import Derived.Test.YtfpmmbbbndobiaaReB
import Derived.Deep.DeepCutAuto
import Derived.Deep.CutBlock
namespace Go.Proofs.Ytfpmmbbbndobiaa
open Go.RowKit

theorem now_in2 (now x : Int) (h0 : 0 ≤ now ∧ now ≤ 1000) : ∃ N, wrap64 (now + wrap64 ((IntKind.u64.wrap x).tmod 9)) = N ∧ 0 ≤ N ∧ N ≤ now + 8 := by
  refine ⟨_, rfl, ?_⟩
  have h : 0 ≤ IntKind.u64.wrap x := by simp [IntKind.wrap, IntKind.bits, IntKind.signed]; omega
  rw [Int.tmod_eq_emod_of_nonneg h]
  unfold wrap64
  omega
set_option maxHeartbeats 1600000 in
theorem ribFloors_no (h l : Int) (ad : Option Addr) (len cap : Nat) (w : World) (hr : rtB h l = false) : Calls Try.prog 4 #[.agg #[.int .i64 h, .int .i64 l], .slice ad len cap] w fun r w' => r = .returned (.bool true) ∧ Below w.heap.size w w' := by
  have HN := fun w1 => new_no 0 h l w1 (.inr ⟨by decide, hr⟩)
  have U : Kp (Below w.heap.size w (w.alloc (.cells #[.int .i64 h, .int .i64 l] 23))) := ⟨more (Below.refl _ _) _⟩
  clear hr
  go_enter Try.func4, Try.ntmps4
  go_wp2_with fail
  refine (HN _).mono ?_
  rintro r w1 ⟨rfl, h1⟩
  have K := Kp.mk (U.out.trans (h1.mono U.out.size))
  clear h1 HN U
  go_wp2_with fail
  refine (awake_any _).mono ?_
  rintro r w2 ⟨rfl, h1⟩
  have K2 := Kp.mk (K.out.trans (h1.mono K.out.size))
  clear h1 K
  go_wp2_with fail
  refine (awake_any _).mono ?_
  rintro r w3 ⟨rfl, h1⟩
  have KC := Kp.mk (K2.out.trans (h1.mono K2.out.size))
  clear h1 K2
  go_wp2_with fail
  go_ret
  exact ⟨rfl, KC.out⟩
set_option maxRecDepth 100000 in
set_option maxHeartbeats 12800000 in
theorem ribFloors_yes (h l : Int) (ad : Option Addr) (len cap : Nat) (ol : List OpR) (w : World) (hr : rtB h l = true) (hops : IsOpsR w ad len ol) : Calls Try.prog 4 #[.agg #[.int .i64 h, .int .i64 l], .slice ad len cap] w fun r w' => r = .returned (.bool true) ∧ Below w.heap.size w w' := by
  have HN := fun w1 => new_yes 0 h l w1 (by decide) hr
  have HH : Kp (0 ≤ h ∧ h ≤ 1048576) := ⟨by simp [rtB] at hr; omega⟩
  have HOPS := Kp.mk hops
  have hlm : len ≤ 9223372036854775807 := by have := hops.max; unfold maxLen at this; omega
  obtain ⟨W0, hW0⟩ : ∃ W0, W0 = w.alloc (.cells #[.int .i64 h, .int .i64 l] 23) := ⟨_, rfl⟩
  have U : Kp (Below w.heap.size w W0) := ⟨by rw [hW0]; exact more (Below.refl _ _) _⟩
  have HWE := Kp.mk hW0
  clear hops hr hW0
  go_enter Try.func4, Try.ntmps4
  go_wp2_with fail
  rw [show w.alloc (.cells #[.int .i64 h, .int .i64 l] 23) = W0 from HWE.out.symm]
  refine (HN _).mono ?_
  rintro r w1 ⟨t, rfl, h1, h2, h3⟩
  have K : Kp (OwnP W0 t (tb0 0 h l) w1) := ⟨ownp_new ⟨h1, h2, h3, tb0_ways 0 h l⟩⟩
  clear h1 h2 h3 HN HWE
  go_wp2_with fail
  refine (awake_any _).mono ?_
  rintro r w2 ⟨rfl, hb⟩
  have K2 : Kp (OwnP W0 t (tb0 0 h l) w2) := ⟨K.out.more hb⟩
  clear hb K
  go_wp2_with fail
  refine (newF_any _).mono ?_
  rintro r w3 ⟨rfl, hw3⟩
  obtain ⟨M, hM⟩ : ∃ M, M = w2.heap.size := ⟨_, rfl⟩
  obtain ⟨B, hB⟩ : ∃ B, B = M + 1 := ⟨_, rfl⟩
  have KA : Kp (FW W0 t B M 0 (fun _ => none) (tb0 0 h l) w3) := ⟨by
    have hlt := K2.out.own.blk.lt
    rw [← hw3]
    exact ⟨K2.out.more (more (more (Below.refl _ _) _) _), by rw [hM]; exact Blk.newAt _ (by rw [hB, hM]; simp), by rw [hM]; exact (MapIs.made w2).keep (more (Below.refl _ _) _), by omega, by omega, by omega, by rw [hM]; exact K2.out.own.hb.size⟩⟩
  have LA : Kp (Flo (tb0 0 h l) h (fun _ => none)) := ⟨flo_new h l _⟩
  rw [← hM, ← hB]
  clear hM hB hw3 K2
  go_wp2_with fail
  go_loopw [8, 38] (fun nv ct wr => ∃ (j n : Nat) (F : Int → Option K3) (T : TB) (now : Int), j ≤ len ∧ ct = .int .i64 j ∧ nv = .int .i64 now ∧ (0 ≤ now ∧ now ≤ 8 * j) ∧ n ≤ j ∧ Kp (FW W0 t B M n F T wr) ∧ Kp (Flo T h F)) (fun _ ct _ => len - (intOf ct).toNat)
  case atStart => exact ⟨0, 0, fun _ => none, tb0 0 h l, 0, Nat.zero_le _, rfl, rfl, by omega, Nat.le_refl _, KA, LA⟩
  case round =>
    clear KA LA
    obtain ⟨j, n, F, T, now, hj, rfl, rfl, hnow, hnj, K0, L0⟩ := hrel
    have HNO := Kp.mk hnow
    have HNJ := Kp.mk hnj
    clear hnj
    by_cases hjl : j < len
    · have hjl' : (j : Int) < (len : Int) := by omega
      have HJL := Kp.mk hjl
      obtain ⟨eb, off, rfl, hb1, hc⟩ := HOPS.out.cells j (by rw [HOPS.out.eq]; exact hjl)
      have HOK2 : Kp ((ol[j]'(by rw [HOPS.out.eq]; exact hjl)).Ok w) := ⟨HOPS.out.ok _ (List.getElem_mem _)⟩
      have HRG : Kp (wr.rangeAt eb (off + j * 28) (ocR (ol[j]'(by rw [HOPS.out.eq]; exact hjl)))) := ⟨rangeAt_below (K0.out.own.own.hb.mono (Nat.le_refl _)) (Nat.lt_of_lt_of_le hb1 U.out.size) (rangeAt_below U.out hb1 hc)⟩
      clear hc hb1 hnow
      generalize ol[j]'(by rw [HOPS.out.eq]; exact hjl) = o at HRG HOK2
      obtain ⟨O, hO⟩ : ∃ O, O = wr.heap.size := ⟨_, rfl⟩
      have HOE := Kp.mk hO
      have K7 : Kp (FW W0 t B M n F T (wr.alloc o.obj) ∧ Blk (wr.alloc o.obj) O o.obj ∧ True) := ⟨K0.out.alloc _, Blk.newAt _ hO, trivial⟩
      have HOT : Kp (O ≠ t) := ⟨by have := K0.out.own.own.blk.lt; omega⟩
      have HOM : Kp (O ≠ M) := ⟨by have := K0.out.map.lt; omega⟩
      clear hO
      go_upto_region 9 with (first
        | (refine wpList_load_mid rfl 46 (.tmp 41) rfl eb (off + j * 28) rfl (ocR o) _ HRG.out Try.underlying46 rfl (by kernel_rfl) ?_)
        | (refine wpList_alloc_row rfl 46 rfl (ocR zO).toArray 28 info46z ?_)
        | (refine wpList_store_row rfl 46 (.tmp 10) (.tmp 42) rfl wr.heap.size (ocR o).toArray rfl rfl 46 _ (Blk.new _ _) (info46s o) rfl (all_oneCell_toArray (ocR_one o)) ?_
           rw [World.setRow_alloc_new]))
      rw [← HOE.out]
      clear HRG
      revert K7
      generalize wr.alloc o.obj = w7
      intro K7
      obtain ⟨c0, c1, c2, c3⟩ := ocR_at K7.out.2.1
      by_cases h60 : 80 ≤ j
      · have h60' : (80 : Int) ≤ (j : Int) := by omega
        go_wp2_with fail
        go_ret
        exact ⟨rfl, U.out.trans (K7.out.1.own.own.hb.mono U.out.size)⟩
      · have h60' : (j : Int) < 80 := by omega
        by_cases hpn : 20 < o.x.pn
        · have hpn' : (20 : Int) < (o.x.pn : Int) := by omega
          go_wp2_with fail
          go_ret
          exact ⟨rfl, U.out.trans (K7.out.1.own.own.hb.mono U.out.size)⟩
        · have hpn' : (o.x.pn : Int) ≤ 20 := by omega
          have HPN : Kp (o.x.pn ≤ 1000000) := ⟨by omega⟩
          obtain ⟨nw, hnw, n0, n1⟩ := now_in2 now o.now (by have := HNO.out; omega)
          have HNW : Kp (0 ≤ nw ∧ nw ≤ 8 * (j + 1 : Nat)) := ⟨by have := HNO.out; omega⟩
          have HTM : Kp (tmB nw = true) := ⟨by have := HNW.out; simp [tmB]; omega⟩
          have HNM : Kp (n < maxLen) := ⟨by have := HNJ.out; unfold maxLen; omega⟩
          clear n0 n1
          go_upto_block 2 with fail
          rw [hnw]
          clear hnw
          go_cut [11, 12, 13, 14] (fun _ _ _ _ wx => ∃ (T' : TB) (F' : Int → Option K3) (n' : Nat), n' ≤ j + 1 ∧ Kp (FW W0 t B M n' F' T' wx) ∧ Kp (Flo T' h F'))
          case first =>
            by_cases hk0 : o.kind = 0
            · have e3 : w7.cell? ⟨O, 3, none⟩ = some (.int .i64 o.x.d) := K7.out.2.1.cell 3
              have d0 : (o.kind == 0) = true := by simp [hk0]
              clear hk0
              go_wp2_with fail
              refine (fw_floor K7.out.1 HOK2.out.d).mono ?_
              rintro r w8 ⟨rfl, hb⟩
              obtain ⟨fl, hfl⟩ : ∃ fl, fl = (F o.x.d).getD k00 := ⟨_, rfl⟩
              obtain ⟨hs, hhs⟩ : ∃ hs, hs = (F o.x.d).isSome := ⟨_, rfl⟩
              have HFS : Kp (fl = (F o.x.d).getD k00 ∧ hs = (F o.x.d).isSome) := ⟨hfl, hhs⟩
              rw [← hfl, ← hhs]
              clear hfl hhs
              obtain ⟨FB, hFB⟩ : ∃ FB, FB = w8.heap.size := ⟨_, rfl⟩
              obtain ⟨pq, hpq⟩ := HOK2.out.p
              obtain ⟨w9, hw9⟩ : ∃ w9, w9 = w8.alloc (.cells #[.int .u32 fl.e, .int .u32 fl.s, .int .i64 fl.m] 47) := ⟨_, rfl⟩
              have HW9 := Kp.mk hw9
              have HFT : Kp (FB ≠ t) := ⟨by have := K7.out.1.own.own.blk.lt; have := hb.size; omega⟩
              have K9 : Kp (FW W0 t B M n F T w9 ∧ Blk w9 O o.obj ∧ Blk w9 FB (.cells (kc fl).toArray 47) ∧ HoldsS w9 (.slice o.x.pa o.x.pn o.x.pc) o.x.pn pq) := ⟨by
                have k9 : FW W0 t B M n F T w9 := by rw [hw9]; exact (K7.out.1.more hb).alloc _
                refine ⟨k9, by rw [hw9]; exact (K7.out.2.1.keep hb).old _, by rw [hw9]; exact Blk.newAt _ hFB, ?_⟩
                exact (hpq.keep U.out).keep k9.own.own.hb⟩
              clear hpq hb K7 K0 c0 c1 c2 c3 e3 hw9
              go_upto_region 14 with fail
              rw [← HW9.out, ← hFB]
              clear hFB HW9
              refine wp_region_held_drew (S := fun w' => Blk w' O o.obj ∧ Blk w' FB (.cells (kc fl).toArray 47)) (by kernel_rfl) (⟨K9.out.2.1.draw, K9.out.2.2.1.draw⟩) (fun hH => ?_)
              refine wpAnyH_take (i := 0) (oi := { dst := some 71, op := Go.Op.move (Go.Operand.tmp 5), type := 25, pos := "law.go:146", after := #[], guard := none }) (v := .pointer (some ⟨t, 0, none⟩)) rfl (by kernel_rfl) (by kernel_rfl) (by kernel_rfl) (fun _ _ _ h => h) (Or.inl ⟨by rfl, fun w hS => by first | rfl | go_simp⟩) hH ?_
              simp only [Act.put, List.setIfInBounds_toArray, List.set_cons_zero, List.set_cons_succ]
              refine wpAnyH_take (i := 1) (oi := { dst := some 72, op := Go.Op.move (Go.Operand.tmp 8), type := 2, pos := "law.go:146", after := #[], guard := none }) (v := .int .i64 nw) rfl (by kernel_rfl) (by kernel_rfl) (by kernel_rfl) (fun _ _ _ h => h) (Or.inl ⟨by rfl, fun w hS => by first | rfl | go_simp⟩) hH ?_
              simp only [Act.put, List.setIfInBounds_toArray, List.set_cons_zero, List.set_cons_succ]
              refine wpAnyH_take (i := 2) (oi := { dst := some 73, op := Go.Op.fieldAddr 46 (Go.Operand.tmp 10) 2, type := 0, pos := "law.go:146", after := #[], guard := none }) (v := .pointer (some ⟨O, 2, none⟩)) rfl (by kernel_rfl) (by kernel_rfl) (by kernel_rfl) (fun _ _ _ h => h) (Or.inl ⟨by rfl, fun w hS => by go_simp⟩) hH ?_
              simp only [Act.put, List.setIfInBounds_toArray, List.set_cons_zero, List.set_cons_succ]
              refine wpAnyH_take (i := 3) (oi := { dst := some 74, op := Go.Op.load 3 (Go.Operand.tmp 73), type := 3, pos := "law.go:146", after := #[{ on := 2, ground := Go.Ground.data }], guard := none }) (v := .int .i64 o.from_) rfl (by kernel_rfl) (by kernel_rfl) (by kernel_rfl) (fun _ _ _ h => h) (Or.inl ⟨by rfl, fun w hS => by have c2 : w.cell? ⟨O, 2, none⟩ = some (.int .i64 o.from_) := Blk.cell hS.1 2; go_simp⟩) hH ?_
              simp only [Act.put, List.setIfInBounds_toArray, List.set_cons_zero, List.set_cons_succ]
              refine wpAnyH_take (i := 4) (oi := { dst := some 75, op := Go.Op.fieldAddr 46 (Go.Operand.tmp 10) 3, type := 0, pos := "law.go:146", after := #[], guard := none }) (v := .pointer (some ⟨O, 3, none⟩)) rfl (by kernel_rfl) (by kernel_rfl) (by kernel_rfl) (fun _ _ _ h => h) (Or.inl ⟨by rfl, fun w hS => by go_simp⟩) hH ?_
              simp only [Act.put, List.setIfInBounds_toArray, List.set_cons_zero, List.set_cons_succ]
              refine wpAnyH_take (i := 5) (oi := { dst := some 76, op := Go.Op.load 44 (Go.Operand.tmp 75), type := 44, pos := "law.go:146", after := #[{ on := 4, ground := Go.Ground.data }], guard := none }) (v := .agg (knc o.x).toArray) rfl (by kernel_rfl) (by kernel_rfl) (by kernel_rfl) (fun _ _ _ h => h) (Or.inl ⟨by rfl, fun w hS => exec_load_mid (cs := knc o.x) rfl rfl (Blk.range (cs := ocR o) (o := 3) hS.1 rfl) Try.underlying44 rfl (by kernel_rfl)⟩) hH ?_
              simp only [Act.put, List.setIfInBounds_toArray, List.set_cons_zero, List.set_cons_succ]
              refine wpAnyH_take (i := 7) (oi := { dst := some 78, op := Go.Op.load 47 (Go.Operand.tmp 11), type := 47, pos := "law.go:146", after := #[], guard := none }) (v := keyV fl) rfl (by kernel_rfl) (by kernel_rfl) (by kernel_rfl) (fun _ _ _ h => h) (Or.inl ⟨by rfl, fun w hS => exec_load_mid (cs := kc fl) rfl rfl (Blk.range (cs := kc fl) (o := 0) hS.2 rfl) Try.underlying47 rfl (by kernel_rfl)⟩) hH ?_
              simp only [Act.put, List.setIfInBounds_toArray, List.set_cons_zero, List.set_cons_succ]
              refine wpAnyH_take (i := 8) (oi := { dst := some 79, op := Go.Op.move (Go.Operand.tmp 12), type := 4, pos := "law.go:146", after := #[], guard := none }) (v := .bool hs) rfl (by kernel_rfl) (by kernel_rfl) (by kernel_rfl) (fun _ _ _ h => h) (Or.inl ⟨by rfl, fun w hS => by first | rfl | go_simp⟩) hH ?_
              simp only [Act.put, List.setIfInBounds_toArray, List.set_cons_zero, List.set_cons_succ]
              refine wpAnyH_ready (rs := [6]) (by kernel_rfl) (by simp) ?_
              refine AllReadyH.cons (o := { dst := some 77, op := Go.Op.call { callee := Go.Callee.value (Go.Operand.func 13), args := #[Go.Operand.tmp 76], argTypes := #[44] }, type := 51, pos := "law.go:146", after := #[{ on := 5, ground := Go.Ground.data }], guard := none }) rfl (fun K hK => ?_) AllReadyH.nil
              go_simp
              refine (known_any o.x pq _ (K9.out.2.2.2.keep (Below.refl _ _).drew) HPN.out).mono ?_
              rintro r w10 ⟨ya, yc, rfl, hrow, hb⟩
              obtain ⟨y, hy⟩ : ∃ y : KV, y = { o.x with pa := ya, pc := yc } := ⟨_, rfl⟩
              have HY2 : Kp (y.d = o.x.d) := ⟨by rw [hy]⟩
              have K10 : Kp (FW W0 t B M n F T w10 ∧ Blk w10 O o.obj ∧ Blk w10 FB (.cells (kc fl).toArray 47) ∧ PathOK w10 t y pq) := ⟨K9.out.1.drew.more hb, K9.out.2.1.draw.keep hb, K9.out.2.2.1.draw.keep hb, by
                rw [hy]
                obtain ⟨hB, hn, hl⟩ := K9.out.2.2.2.row
                exact PathOK.ofRow (x := o.x) hB HPN.out hl (show t < w9.heap.size + 2 by have := K9.out.1.own.own.blk.lt; omega) hrow⟩
              rw [← hy]
              clear hb hrow hy K9
              refine hK.out _ _ (⟨K10.out.2.1, K10.out.2.2.1⟩) (fun hHn => ?_)
              clear hK K hH
              have hH := hHn
              clear hHn
              try simp only [Act.put, List.setIfInBounds_toArray, List.set_cons_zero, List.set_cons_succ]
              refine wpAnyH_ready (rs := [9]) (by kernel_rfl) (by simp) ?_
              refine AllReadyH.cons (o := { dst := some 80, op := Go.Op.call { callee := Go.Callee.value (Go.Operand.func 14), args := #[Go.Operand.tmp 71, Go.Operand.tmp 72, Go.Operand.tmp 74, Go.Operand.tmp 77, Go.Operand.tmp 78, Go.Operand.tmp 79], argTypes := #[25, 2, 3, 51, 47, 4] }, type := 53, pos := "law.go:146", after := #[{ on := 0, ground := Go.Ground.data }, { on := 1, ground := Go.Ground.data }, { on := 3, ground := Go.Ground.data }, { on := 6, ground := Go.Ground.data }, { on := 7, ground := Go.Ground.data }, { on := 8, ground := Go.Ground.data }, { on := 6, ground := Go.Ground.chain }], guard := none }) rfl (fun K hK => ?_) AllReadyH.nil
              go_simp
              have HOF := fw_offer nw o.from_ y pq K10.out.1 L0.out K10.out.2.2.2
              rw [HY2.out, ← HFS.out.1, ← HFS.out.2] at HOF
              refine HOF.mono ?_
              rintro r w11 ⟨⟨e1, e2, rfl⟩, ⟨T2, hA, hO⟩, hkeep⟩
              have K11 := Kp.mk hA
              have L11 := Kp.mk hO
              have S11 : Kp (Blk w11 O o.obj ∧ Blk w11 FB (.cells (kc fl).toArray 47)) := ⟨hkeep _ _ K10.out.2.1 HOT.out, hkeep _ _ K10.out.2.2.1 HFT.out⟩
              clear hA hO hkeep HOF K10
              refine hK.out _ _ (S11.out) (fun hHn => ?_)
              clear hK K hH
              have hH := hHn
              clear hHn
              try simp only [Act.put, List.setIfInBounds_toArray, List.set_cons_zero, List.set_cons_succ]
              clear hH
              refine wpAnyH_done (by kernel_rfl) ?_ _
              go_wp2_with fail
              go_meet
              case rel => exact ⟨T2, F, n, by have := HNJ.out; omega, K11, L11⟩
            · by_cases hk1 : o.kind = 1
              · have d0 : (o.kind == 0) = false := by simp [hk0]
                have d1 : (o.kind == 1) = true := by simp [hk1]
                clear hk0 hk1
                go_wp2_with fail
                refine (fw_break nw o.from_ K7.out.1 L0.out HTM.out HH.out).mono ?_
                rintro r w9 ⟨⟨a9, n9, c9, rfl⟩, T2, hA, hO⟩
                have K11 := Kp.mk hA
                have L11 := Kp.mk hO
                clear hA hO K7 K0 c0 c1 c2 c3
                go_wp2_with fail
                go_meet
                case rel => exact ⟨T2, F, n, by have := HNJ.out; omega, K11, L11⟩
              · by_cases hk2 : o.kind = 2
                · have d0 : (o.kind == 0) = false := by simp [hk0]
                  have d1 : (o.kind == 1) = false := by simp [hk1]
                  have d2 : (o.kind == 2) = true := by simp [hk2]
                  clear hk0 hk1 hk2
                  go_wp2_with fail
                  refine (fw_expire nw K7.out.1 L0.out HTM.out HH.out).mono ?_
                  rintro r w9 ⟨⟨a9, n9, c9, rfl⟩, T2, hA, hO⟩
                  have K11 := Kp.mk hA
                  have L11 := Kp.mk hO
                  clear hA hO K7 K0 c0 c1 c2 c3
                  go_wp2_with fail
                  go_meet
                  case rel => exact ⟨T2, F, n, by have := HNJ.out; omega, K11, L11⟩
                · by_cases hk3 : o.kind = 3
                  · have d0 : (o.kind == 0) = false := by simp [hk0]
                    have d1 : (o.kind == 1) = false := by simp [hk1]
                    have d2 : (o.kind == 2) = false := by simp [hk2]
                    have d3 : (o.kind == 3) = true := by simp [hk3]
                    clear hk0 hk1 hk2 hk3
                    go_wp2_with fail
                    refine (fw_get o.from_ K7.out.1 L0.out).mono ?_
                    rintro r w8 ⟨hget, hK8, hb⟩
                    have K8 : Kp (FW W0 t B M n F T w8 ∧ Blk w8 O o.obj) := ⟨hK8, K7.out.2.1.keep hb⟩
                    clear hK8 hb K7 K0 c0 c1 c2 c3
                    rcases hget with rfl | ⟨e, kk, n9, s9, y9, hde, he8, he0, hkk, rfl⟩
                    · obtain ⟨q, hq⟩ : ∃ q, q = rt0 := ⟨_, rfl⟩
                      have HQ : Kp ((Try.prog.info? 70).map (·.size) = some q.toArray.size ∧ q.toArray.size = 28 ∧ ∀ v ∈ q, v.oneCell' = true) := ⟨by rw [hq]; exact ⟨info70s0, rfl, rt0_one⟩⟩
                      rw [← hq]
                      clear hq
                      have K9 : Kp (FW W0 t B M n F T (w8.alloc (.cells q.toArray 70))) := ⟨K8.out.1.alloc _⟩
                      clear K8
                      go_upto_region 21 with (first
                      | (refine wpList_alloc_row rfl 70 rfl rt0.toArray 28 info70z ?_)
                      | (refine wpList_store_row rfl 70 (.tmp 13) (.tmp 100) rfl w8.heap.size q.toArray rfl rfl 70 _ (Blk.new _ _) HQ.out.1 (by rw [HQ.out.2.1]; rfl) (all_oneCell_toArray HQ.out.2.2) ?_
                         rw [World.setRow_alloc_new]))
                      revert K9
                      generalize w8.alloc (.cells q.toArray 70) = w9
                      intro K9
                      go_wp2_with fail
                      go_meet
                      case rel => exact ⟨T, F, n, by have := HNJ.out; omega, K9, L0⟩
                    · obtain ⟨X, hX⟩ : ∃ X, X = w8.heap.size := ⟨_, rfl⟩
                      have HX := Kp.mk hX
                      obtain ⟨q, hq⟩ : ∃ q, q = rtc e kk n9 true s9 y9 := ⟨_, rfl⟩
                      have HQ : Kp ((Try.prog.info? 70).map (·.size) = some q.toArray.size ∧ q.toArray.size = 28 ∧ ∀ v ∈ q, v.oneCell' = true) := ⟨by rw [hq]; exact ⟨info70s _ _ _ _ _ _, rfl, rtc_one _ _ _ _ _ _⟩⟩
                      have HQK : Kp (∀ wx, Blk wx X (.cells q.toArray 70) → wx.cell? ⟨X, 1, none⟩ = some (.int .u32 kk.e) ∧ wx.cell? ⟨X, 2, none⟩ = some (.int .u32 kk.s) ∧ wx.cell? ⟨X, 3, none⟩ = some (.int .i64 kk.m)) := ⟨fun wx hx => by rw [hq] at hx; exact ⟨Blk.cell hx 1, Blk.cell hx 2, Blk.cell hx 3⟩⟩
                      rw [show (rtc e kk n9 true s9 y9) = q from hq.symm]
                      have K9 : Kp (FW W0 t B M n F T (w8.alloc (.cells q.toArray 70)) ∧ Blk (w8.alloc (.cells q.toArray 70)) X (.cells q.toArray 70) ∧ Blk (w8.alloc (.cells q.toArray 70)) O o.obj) := ⟨K8.out.1.alloc _, Blk.newAt _ hX, K8.out.2.old _⟩
                      have HXM : Kp (X ≠ M ∧ O ≠ M) := ⟨by have := K8.out.1.map.lt; exact ⟨by omega, HOM.out⟩⟩
                      have HE : Kp (o.from_ = e ∧ e < 8 ∧ e ≠ 0 ∧ krB kk = true) := ⟨hde, he8, he0, hkk⟩
                      clear hX hq K8 hde he8 he0 hkk
                      go_upto_region 21 with (first
                      | (refine wpList_alloc_row rfl 70 rfl rt0.toArray 28 info70z ?_)
                      | (refine wpList_store_row rfl 70 (.tmp 13) (.tmp 100) rfl w8.heap.size q.toArray rfl rfl 70 _ (Blk.new _ _) HQ.out.1 (by rw [HQ.out.2.1]; rfl) (all_oneCell_toArray HQ.out.2.2) ?_
                         rw [World.setRow_alloc_new]))
                      rw [← HX.out]
                      revert K9
                      generalize w8.alloc (.cells q.toArray 70) = w9
                      intro K9
                      obtain ⟨x1, x2, x3⟩ := HQK.out _ K9.out.2.1
                      have c2 : w9.cell? ⟨O, 2, none⟩ = some (.int .i64 e) := by have := (ocR_at K9.out.2.2).2.2.1; rwa [HE.out.1] at this
                      go_wp2_with fail
                      refine (fw_raise kk HE.out.2.1 HNM.out K9.out.1).mono ?_
                      rintro r w10 ⟨⟨ru, re, rfl⟩, KR, hkeep⟩
                      have K10 : Kp (FW W0 t B M (n + 1) (raiseF F e kk) T w10 ∧ Blk w10 X (.cells q.toArray 70) ∧ Blk w10 O o.obj) := ⟨KR, hkeep _ _ K9.out.2.1 HXM.out.1, hkeep _ _ K9.out.2.2 HXM.out.2⟩
                      clear KR hkeep K9 x1 x2 x3 c2
                      obtain ⟨x1, x2, x3⟩ := HQK.out _ K10.out.2.1
                      have c2 : w10.cell? ⟨O, 2, none⟩ = some (.int .i64 e) := by have := (ocR_at K10.out.2.2).2.2.1; rwa [HE.out.1] at this
                      go_wp2_with fail
                      refine (fw_prune kk HE.out.2.1 HE.out.2.2.1 HE.out.2.2.2 L0.out K10.out.1).mono ?_
                      rintro r w11 ⟨rfl, hA, hO⟩
                      have K11 := Kp.mk hA
                      have L11 := Kp.mk hO
                      clear hA hO K10 x1 x2 x3 c2
                      go_wp2_with fail
                      go_meet
                      case rel => exact ⟨_, _, n + 1, by have := HNJ.out; omega, K11, L11⟩
                  · clear K0
                    have d0 : (o.kind == 0) = false := by simp [hk0]
                    have d1 : (o.kind == 1) = false := by simp [hk1]
                    have d2 : (o.kind == 2) = false := by simp [hk2]
                    have d3 : (o.kind == 3) = false := by simp [hk3]
                    go_wp2_with fail
                    go_meet
                    case rel => exact ⟨T, F, n, by have := HNJ.out; omega, ⟨K7.out.1⟩, L0⟩
          case rest =>
            obtain ⟨T2, F2, n2, hn2, K2, L2⟩ := hcut
            have HN2 : Kp (n2 ≤ j + 1) := ⟨hn2⟩
            clear K7 K0 c0 c1 c2 c3 hn2 L0 HNJ
            go_wp2_with fail
            refine (fw_valid K2.out L2.out).mono ?_
            rintro r w3 ⟨⟨a3, m3, c3, rfl, hm8, hR⟩, hK3⟩
            have KB : Kp (FW W0 t B M n2 F2 T2 w3 ∧ Rows70 w3 a3 m3 F2) := ⟨hK3, hR⟩
            have HM8 : Kp (m3 ≤ 8) := ⟨hm8⟩
            clear hm8 hR hK3 K2
            go_wp2_with fail
            go_loopw [118] (fun ct wy => ∃ k : Nat, k ≤ m3 ∧ ct = .int .i64 k ∧ Kp (FW W0 t B M n2 F2 T2 wy ∧ Rows70 wy a3 m3 F2)) (fun ct _ => m3 - (intOf ct).toNat)
            case atStart => exact ⟨0, Nat.zero_le _, rfl, KB⟩
            case round =>
              clear KB
              obtain ⟨k, hk, rfl, K4⟩ := hrel
              by_cases hkl : k < m3
              · have hkl' : (k : Int) < (m3 : Int) := by omega
                have HKL := Kp.mk hkl
                have hk8 : k < 8 := by have := HM8.out; omega
                obtain ⟨g, off, d, kk, nn, s, y, rfl, hg1, hd8, hfl, hrg⟩ := K4.out.2 k hkl
                have HD8 := Kp.mk hd8
                have HFL := Kp.mk hfl
                obtain ⟨q, hq⟩ : ∃ q, q = rtc d kk nn true s y := ⟨_, rfl⟩
                rw [← hq] at hrg
                have HRG := Kp.mk hrg
                have HQ : Kp ((Try.prog.info? 70).map (·.size) = some q.toArray.size ∧ q.toArray.size = 28 ∧ ∀ v ∈ q, v.oneCell' = true) := ⟨by rw [hq]; exact ⟨info70s _ _ _ _ _ _, rfl, rtc_one _ _ _ _ _ _⟩⟩
                have HQL : Kp ((Try.prog.info? 70).map (·.size) = some q.length) := ⟨by rw [hq]; kernel_rfl⟩
                obtain ⟨X, hX⟩ : ∃ X, X = wr.heap.size := ⟨_, rfl⟩
                have HX := Kp.mk hX
                have HQK : Kp (∀ wx, Blk wx X (.cells q.toArray 70) → wx.cell? ⟨X, 0, none⟩ = some (.int .i64 d) ∧ wx.cell? ⟨X, 1, none⟩ = some (.int .u32 kk.e) ∧ wx.cell? ⟨X, 2, none⟩ = some (.int .u32 kk.s) ∧ wx.cell? ⟨X, 3, none⟩ = some (.int .i64 kk.m)) := ⟨fun wx hx => by rw [hq] at hx; exact ⟨Blk.cell hx 0, Blk.cell hx 1, Blk.cell hx 2, Blk.cell hx 3⟩⟩
                have K5 : Kp (FW W0 t B M n2 F2 T2 (wr.alloc (.cells q.toArray 70)) ∧ Rows70 (wr.alloc (.cells q.toArray 70)) (some ⟨g, off, none⟩) m3 F2 ∧ Blk (wr.alloc (.cells q.toArray 70)) X (.cells q.toArray 70)) := ⟨K4.out.1.alloc _, K4.out.2.keep (more (Below.refl _ _) _), Blk.newAt _ hX⟩
                clear hq hX hrg hfl hd8 hg1 K4 hkl
                go_upto_region 27 with (first
                  | (refine wpList_load_mid rfl 70 (.tmp 120) rfl g (off + k * 28) rfl q _ HRG.out Try.underlying70 rfl HQL.out ?_)
                  | (refine wpList_alloc_row rfl 70 rfl rt0.toArray 28 info70z ?_)
                  | (refine wpList_store_row rfl 70 (.tmp 16) (.tmp 121) rfl wr.heap.size q.toArray rfl rfl 70 _ (Blk.new _ _) HQ.out.1 (by rw [HQ.out.2.1]; rfl) (all_oneCell_toArray HQ.out.2.2) ?_
                     rw [World.setRow_alloc_new]))
                rw [← HX.out]
                clear HRG
                revert K5
                generalize wr.alloc (.cells q.toArray 70) = w5
                intro K5
                obtain ⟨x0, x1, x2, x3⟩ := HQK.out _ K5.out.2.2
                go_wp2_with fail
                refine (fw_floor K5.out.1 (dkey_small HD8.out)).mono ?_
                rintro r w6 ⟨rfl, hb⟩
                have K6 : Kp (FW W0 t B M n2 F2 T2 w6 ∧ Rows70 w6 (some ⟨g, off, none⟩) m3 F2 ∧ Blk w6 X (.cells q.toArray 70)) := ⟨K5.out.1.more hb, K5.out.2.1.keep hb, K5.out.2.2.keep hb⟩
                clear hb K5 x0 x1 x2 x3
                obtain ⟨x0, x1, x2, x3⟩ := HQK.out _ K6.out.2.2
                cases hF : F2 d with
                | none =>
                  have K7 : Kp (∀ o, FW W0 t B M n2 F2 T2 (w6.alloc o) ∧ Rows70 (w6.alloc o) (some ⟨g, off, none⟩) m3 F2) := ⟨fun o => ⟨K6.out.1.alloc o, K6.out.2.1.keep (more (Below.refl _ _) _)⟩⟩
                  clear hF K6
                  go_wp2_with fail
                  exact ⟨⟨k + 1, by have := HKL.out; omega, by go_num, ⟨K7.out _⟩⟩, by have := HKL.out; simp [intOf]; omega⟩
                | some kf =>
                  have hge := HFL.out kf hF
                  obtain ⟨V, hV⟩ : ∃ V, V = cmpK kk kf := ⟨_, rfl⟩
                  have HC := fun wx => compare_any kk kf wx
                  rw [← hV] at HC hge
                  have hdec : decide (V < 0) = false := by simp; omega
                  have lX := K6.out.2.2.lt
                  have HBW : Kp (∀ o wz, Below (w6.alloc o).heap.size (w6.alloc o) wz → FW W0 t B M n2 F2 T2 wz ∧ Rows70 wz (some ⟨g, off, none⟩) m3 F2) := ⟨fun o wz hb => ⟨(K6.out.1.alloc o).more hb, (K6.out.2.1.keep (more (Below.refl _ _) _)).keep hb⟩⟩
                  clear hF hV hge K6
                  go_wp2_with fail
                  refine (HC _).mono ?_
                  rintro r w7 ⟨rfl, hb⟩
                  have K7 := Kp.mk (HBW.out _ _ hb)
                  clear hb HBW HC x0 x1 x2 x3
                  go_wp2_with fail
                  exact ⟨⟨k + 1, by have := HKL.out; omega, by go_num, K7⟩, by have := HKL.out; simp [intOf]; omega⟩
              · have hkl' : (m3 : Int) ≤ (k : Int) := by omega
                have K5 := Kp.mk K4.out.1
                clear K4 hkl hk
                go_wp2_with fail
                exact ⟨⟨j + 1, n2, F2, T2, nw, by have := HJL.out; omega, by go_num, rfl, HNW.out, HN2.out, K5, L2⟩, by have := HJL.out; simp [intOf]; omega⟩
    · have hjl' : (len : Int) ≤ (j : Int) := by omega
      go_wp2_with fail
      go_ret
      exact ⟨rfl, U.out.trans (K0.out.own.own.hb.mono U.out.size)⟩
theorem ribFloors_walk (h l : Int) (ad : Option Addr) (len cap : Nat) (ol : List OpR) (w : World) (_ : (Lit.int .i64 h).wf = true) (_ : (Lit.int .i64 l).wf = true) (hops : IsOpsR w ad len ol) : Calls Try.prog 4 #[.agg #[.int .i64 h, .int .i64 l], .slice ad len cap] w fun r w' => r = .returned (.bool true) ∧ Below w.heap.size w w' := by
  cases hr : rtB h l with
  | false => exact ribFloors_no h l ad len cap w hr
  | true => exact ribFloors_yes h l ad len cap ol w hr hops
end Go.Proofs.Ytfpmmbbbndobiaa
