/-
  RibApart, where the law goes on: the walk.
-/
import Derived.Test.YtfpmmbbbndobiaaReB
namespace Go.Proofs.Ytfpmmbbbndobiaa
open Go.RowKit

set_option maxRecDepth 100000 in
set_option maxHeartbeats 12800000 in
theorem ribApart_yes (h l : Int) (k : K3) (g : Nat) (ad : Option Addr) (len cap : Nat) (ol : List OpR) (w : World) (hr : rtB h 1048576 = true) (hk : krB k = true) (hg : 1 ≤ g ∧ g < 8) (hops : IsOpsR w ad len ol) : Calls Try.prog 5 #[.agg #[.int .i64 h, .int .i64 l], keyV k, .int .i64 g, .slice ad len cap] w fun r w' => r = .returned (.bool true) ∧ Below w.heap.size w w' := by
  have HR := fun w1 => rkright_any k w1
  rw [hk] at HR
  have HN := fun w1 => new_yes 0 h 1048576 w1 (by decide) hr
  have hh : 0 ≤ h ∧ h ≤ 1048576 := by simp [rtB] at hr; omega
  have HH := Kp.mk hh
  have HFI := fun {w0 w1 : World} {t : Nat} (H : OwnP w0 t (tb0 0 h 1048576) w1) => ownp_first hg hk H
  have HG : Kp (g < 8) := ⟨hg.2⟩
  have HOPS := Kp.mk hops
  have hlm : len ≤ 9223372036854775807 := by have := hops.max; unfold maxLen at this; omega
  have g1 : ¬ ((g : Int) < 1) := by omega
  have g2 : (g : Int) < 8 := by omega
  have g3 : ¬ (h < 0) := by omega
  obtain ⟨B4, hB4⟩ : ∃ B, B = w.heap.size := ⟨_, rfl⟩
  obtain ⟨B5, hB5⟩ : ∃ B, B = B4 + 1 := ⟨_, rfl⟩
  obtain ⟨W0, hW0⟩ : ∃ W0, W0 = HB2 w h l k := ⟨_, rfl⟩
  have U : Kp (Blk W0 B4 (.cells #[.int .i64 h, .int .i64 l] 23) ∧ Blk W0 B5 (.cells (kc k).toArray 40) ∧ Below w.heap.size w W0) := ⟨by rw [hW0, hB5, hB4]; exact hb2_is w h l k⟩
  have HE := Kp.mk (And.intro hB4 hB5)
  have HWE := Kp.mk hW0
  clear hops hr hk hg hh hB4 hB5 hW0
  obtain ⟨e, s, m⟩ := k
  go_enter Try.func5, Try.ntmps5
  go_wp2_with fail
  refine (HN _).mono ?_
  rw [show (w.alloc (.cells #[.int .i64 h, .int .i64 l] 23)).alloc (.cells #[.int .u32 e, .int .u32 s, .int .i64 m] 40) = W0 from HWE.out.symm]
  rw [← HE.out.1, ← HE.out.2]
  rintro r w1 ⟨t, rfl, h1, h2, h3⟩
  have K : Kp (Blk w1 B4 (.cells #[.int .i64 h, .int .i64 l] 23) ∧ Blk w1 B5 (.cells (kc ⟨e, s, m⟩).toArray 40) ∧ OwnP W0 t (tb0 0 h 1048576) w1) := ⟨U.out.1.keep h3, U.out.2.1.keep h3, ownp_new ⟨h1, h2, h3, tb0_ways 0 h 1048576⟩⟩
  clear h1 h2 h3 HN
  go_wp2_with fail
  refine (awake_any _).mono ?_
  rintro r w2 ⟨rfl, hb⟩
  have K2 : Kp (Blk w2 B4 (.cells #[.int .i64 h, .int .i64 l] 23) ∧ Blk w2 B5 (.cells (kc ⟨e, s, m⟩).toArray 40) ∧ OwnP W0 t (tb0 0 h 1048576) w2) := ⟨K.out.1.keep hb, K.out.2.1.keep hb, K.out.2.2.more hb⟩
  clear hb K
  obtain ⟨k0, k1, k2, -⟩ := K2.out.2.1.three
  go_wp2_with fail
  refine (HR _).mono ?_
  rintro r w3 ⟨rfl, hb⟩
  have K3 : Kp (Blk w3 B4 (.cells #[.int .i64 h, .int .i64 l] 23) ∧ Blk w3 B5 (.cells (kc ⟨e, s, m⟩).toArray 40) ∧ OwnP W0 t (tb0 0 h 1048576) w3) := ⟨K2.out.1.keep hb, K2.out.2.1.keep hb, K2.out.2.2.more hb⟩
  clear hb K2 k0 k1 k2 HR
  obtain ⟨k0, k1, k2, -⟩ := K3.out.2.1.three
  obtain ⟨q0, q1, -⟩ := K3.out.1.two
  go_wp2_with fail
  refine (kto_any ⟨e, s, m⟩ _).mono ?_
  rintro r w4 ⟨rfl, hb⟩
  have K4 : Kp (Blk w4 B5 (.cells (kc ⟨e, s, m⟩).toArray 40) ∧ OwnP W0 t (tb0 0 h 1048576) w4) := ⟨K3.out.2.1.keep hb, K3.out.2.2.more hb⟩
  clear hb K3 k0 k1 k2 q0 q1
  go_wp2_with fail
  refine (HFI K4.out.2).mono ?_
  rintro r w5 ⟨⟨x0, rfl⟩, T0, hA, hO⟩
  have A5 := Kp.mk hA
  have K5 : Kp (AP W0 t B5 ⟨e, s, m⟩ T0 w5) := ⟨hO, (U.out.2.1).keep hO.own.hb⟩
  clear hA hO K4 HFI
  obtain ⟨k, hkk⟩ : ∃ k : K3, k = ⟨e, s, m⟩ := ⟨_, rfl⟩
  rw [← hkk] at A5 K5
  have HAP : Kp (∀ T wx, OwnP W0 t T wx → AP W0 t B5 k T wx) := ⟨fun T wx hO => ⟨hO, by rw [hkk]; exact U.out.2.1.keep hO.own.hb⟩⟩
  clear hkk
  go_wp2_with fail
  go_loopw [13, 62] (fun nv ct wr => ∃ (j : Nat) (T : TB) (now : Int), j ≤ len ∧ ct = .int .i64 j ∧ nv = .int .i64 now ∧ (0 ≤ now ∧ now ≤ 8 * j) ∧ Kp (Apart g k h T) ∧ Kp (AP W0 t B5 k T wr)) (fun _ ct _ => len - (intOf ct).toNat)
  case atStart => exact ⟨0, T0, 0, Nat.zero_le _, rfl, rfl, by omega, A5, K5⟩
  case round =>
    obtain ⟨j, T, now, hj, rfl, rfl, hnow, A0, K0⟩ := hrel
    have HNO := Kp.mk hnow
    by_cases hjl : j < len
    · have hjl' : (j : Int) < (len : Int) := by omega
      have HJL := Kp.mk hjl
      obtain ⟨eb, off, rfl, hb1, hc⟩ := HOPS.out.cells j (by rw [HOPS.out.eq]; exact hjl)
      have HOK2 : Kp ((ol[j]'(by rw [HOPS.out.eq]; exact hjl)).Ok w) := ⟨HOPS.out.ok _ (List.getElem_mem _)⟩
      have HRG : Kp (wr.rangeAt eb (off + j * 28) (ocR (ol[j]'(by rw [HOPS.out.eq]; exact hjl)))) := ⟨rangeAt_below (K0.out.own.own.hb.mono (Nat.le_refl _)) (Nat.lt_of_lt_of_le hb1 U.out.2.2.size) (rangeAt_below U.out.2.2 hb1 hc)⟩
      clear hc hb1 hnow
      generalize ol[j]'(by rw [HOPS.out.eq]; exact hjl) = o at HRG HOK2
      obtain ⟨O, hO⟩ : ∃ O, O = wr.heap.size := ⟨_, rfl⟩
      have HOE := Kp.mk hO
      have K7 : Kp (AP W0 t B5 k T (wr.alloc o.obj) ∧ Blk (wr.alloc o.obj) O o.obj ∧ Below wr.heap.size wr (wr.alloc o.obj)) := ⟨K0.out.more (more (Below.refl _ _) _), Blk.newAt _ hO, more (Below.refl _ _) _⟩
      have HOT : Kp (O ≠ t) := ⟨by have := K0.out.own.own.blk.lt; omega⟩
      clear hO
      go_upto_region 11 with (first
        | (refine wpList_load_mid rfl 46 (.tmp 65) rfl eb (off + j * 28) rfl (ocR o) _ HRG.out Try.underlying46 rfl (by kernel_rfl) ?_)
        | (refine wpList_alloc_row rfl 46 rfl (ocR zO).toArray 28 info46z ?_)
        | (refine wpList_store_row rfl 46 (.tmp 15) (.tmp 66) rfl wr.heap.size (ocR o).toArray rfl rfl 46 _ (Blk.new _ _) (info46s o) rfl (all_oneCell_toArray (ocR_one o)) ?_
           rw [World.setRow_alloc_new]))
      rw [← HOE.out]
      clear HRG
      revert K7
      generalize wr.alloc o.obj = w7
      intro K7
      obtain ⟨c0, c1, c2, c3⟩ := ocR_at K7.out.2.1
      by_cases h60 : 60 ≤ j
      · have h60' : (60 : Int) ≤ (j : Int) := by omega
        go_wp2_with fail
        go_ret
        exact ⟨rfl, U.out.2.2.trans (K7.out.1.own.own.hb.mono U.out.2.2.size)⟩
      · have h60' : (j : Int) < 60 := by omega
        by_cases hpn : 20 < o.x.pn
        · have hpn' : (20 : Int) < (o.x.pn : Int) := by omega
          go_wp2_with fail
          go_ret
          exact ⟨rfl, U.out.2.2.trans (K7.out.1.own.own.hb.mono U.out.2.2.size)⟩
        · have hpn' : (o.x.pn : Int) ≤ 20 := by omega
          have HPN : Kp ((o2 o).x.pn ≤ 1000000) := ⟨show o.x.pn ≤ 1000000 by omega⟩
          obtain ⟨nw, hnw, n0, n1⟩ := now_in now o.now (by have := HNO.out; omega)
          have HNW : Kp (0 ≤ nw ∧ nw ≤ 8 * (j + 1 : Nat)) := ⟨by have := HNO.out; omega⟩
          have HTM : Kp (tmB nw = true) := ⟨by have := HNW.out; simp [tmB]; omega⟩
          clear n0 n1
          by_cases hf : o.from_ = g
          · rw [hf] at c2
            go_wp2_with fail
            rw [hnw]
            exact ⟨⟨j + 1, T, nw, by omega, by go_num, rfl, HNW.out, A0, ⟨K7.out.1⟩⟩, by simp [intOf]; omega⟩
          · have HF : Kp (o.from_ ≠ g) := ⟨hf⟩
            by_cases hk0 : o.kind = 0
            · have d3 : w7.cell? ⟨O, 3, none⟩ = some (.int .i64 o.x.d) := K7.out.2.1.cell 3
              have f3 : w7.frozen? ⟨O, 3, none⟩ = false := K7.out.2.1.frozen 3
              rw [hk0] at c0
              have hf' : (o.from_ == (g : Int)) = false := by simp [hf]
              clear hk0
              go_upto_region 17 with fail
              rw [hnw]
              obtain ⟨pq, hpq⟩ := HOK2.out.p
              have hb8 : Below wr.heap.size wr (w7.setCell ⟨O, 3, none⟩ (.int .i64 2)) := K7.out.2.2.setCell (p := ⟨O, 3, none⟩) (by rw [HOE.out]; exact Nat.le_refl _) _
              have K9 : Kp (AP W0 t B5 k T (w7.setCell ⟨O, 3, none⟩ (.int .i64 2)) ∧ Blk (w7.setCell ⟨O, 3, none⟩ (.int .i64 2)) O (o2 o).obj ∧ HoldsS (w7.setCell ⟨O, 3, none⟩ (.int .i64 2)) (.slice (o2 o).x.pa (o2 o).x.pn (o2 o).x.pc) (o2 o).x.pn pq) := ⟨K0.out.more hb8, by
                have := K7.out.2.1.set 3 (.int .i64 2)
                rw [ocR_set] at this
                exact this, ((hpq.keep U.out.2.2).keep K0.out.own.own.hb).keep hb8⟩
              clear hb8 hpq K7 K0 c0 c1 c2 c3 d3 f3 hf hf'
              revert K9
              generalize w7.setCell ⟨O, 3, none⟩ (.int .i64 2) = w9
              intro K9
              refine wp_region_held_drew (S := fun w' => Blk w' O (o2 o).obj) (by kernel_rfl) (K9.out.2.1.draw) (fun hH => ?_)
              refine wpAnyH_take (i := 0) (oi := { dst := some 93, op := Go.Op.move (Go.Operand.tmp 9), type := 25, pos := "law.go:187", after := #[], guard := none }) (v := .pointer (some ⟨t, 0, none⟩)) rfl (by kernel_rfl) (by kernel_rfl) (by kernel_rfl) (fun _ _ _ h => h) (Or.inl ⟨by rfl, fun w hS => by first | rfl | go_simp⟩) hH ?_
              simp only [Act.put, List.setIfInBounds_toArray, List.set_cons_zero, List.set_cons_succ]
              refine wpAnyH_take (i := 1) (oi := { dst := some 94, op := Go.Op.move (Go.Operand.tmp 13), type := 2, pos := "law.go:187", after := #[], guard := none }) (v := .int .i64 nw) rfl (by kernel_rfl) (by kernel_rfl) (by kernel_rfl) (fun _ _ _ h => h) (Or.inl ⟨by rfl, fun w hS => by first | rfl | go_simp⟩) hH ?_
              simp only [Act.put, List.setIfInBounds_toArray, List.set_cons_zero, List.set_cons_succ]
              refine wpAnyH_take (i := 2) (oi := { dst := some 95, op := Go.Op.fieldAddr 46 (Go.Operand.tmp 15) 2, type := 0, pos := "law.go:187", after := #[], guard := none }) (v := .pointer (some ⟨O, 2, none⟩)) rfl (by kernel_rfl) (by kernel_rfl) (by kernel_rfl) (fun _ _ _ h => h) (Or.inl ⟨by rfl, fun w hS => by go_simp⟩) hH ?_
              simp only [Act.put, List.setIfInBounds_toArray, List.set_cons_zero, List.set_cons_succ]
              refine wpAnyH_take (i := 3) (oi := { dst := some 96, op := Go.Op.load 3 (Go.Operand.tmp 95), type := 3, pos := "law.go:187", after := #[{ on := 2, ground := Go.Ground.data }], guard := none }) (v := .int .i64 o.from_) rfl (by kernel_rfl) (by kernel_rfl) (by kernel_rfl) (fun _ _ _ h => h) (Or.inl ⟨by rfl, fun w hS => by have c2 : w.cell? ⟨O, 2, none⟩ = some (.int .i64 o.from_) := Blk.cell hS 2; go_simp⟩) hH ?_
              simp only [Act.put, List.setIfInBounds_toArray, List.set_cons_zero, List.set_cons_succ]
              refine wpAnyH_take (i := 4) (oi := { dst := some 97, op := Go.Op.fieldAddr 46 (Go.Operand.tmp 15) 3, type := 0, pos := "law.go:187", after := #[], guard := none }) (v := .pointer (some ⟨O, 3, none⟩)) rfl (by kernel_rfl) (by kernel_rfl) (by kernel_rfl) (fun _ _ _ h => h) (Or.inl ⟨by rfl, fun w hS => by go_simp⟩) hH ?_
              simp only [Act.put, List.setIfInBounds_toArray, List.set_cons_zero, List.set_cons_succ]
              refine wpAnyH_take (i := 5) (oi := { dst := some 98, op := Go.Op.load 44 (Go.Operand.tmp 97), type := 44, pos := "law.go:187", after := #[{ on := 4, ground := Go.Ground.data }], guard := none }) (v := .agg (knc (o2 o).x).toArray) rfl (by kernel_rfl) (by kernel_rfl) (by kernel_rfl) (fun _ _ _ h => h) (Or.inl ⟨by rfl, fun w hS => exec_load_mid (cs := knc (o2 o).x) rfl rfl (Blk.range (cs := ocR (o2 o)) (o := 3) hS rfl) Try.underlying44 rfl (by kernel_rfl)⟩) hH ?_
              simp only [Act.put, List.setIfInBounds_toArray, List.set_cons_zero, List.set_cons_succ]
              refine wpAnyH_take (i := 7) (oi := { dst := some 100, op := Go.Op.build 47 #[], type := 47, pos := "law.go:187", after := #[], guard := none }) (v := keyV k0) rfl (by kernel_rfl) (by kernel_rfl) (by kernel_rfl) (fun _ _ _ h => h) (Or.inl ⟨by rfl, fun w hS => exec_build 47 #[] rfl #[] (by simp) #[.int .u32 0, .int .u32 0, .int .i64 0] (by kernel_rfl)⟩) hH ?_
              simp only [Act.put, List.setIfInBounds_toArray, List.set_cons_zero, List.set_cons_succ]
              refine wpAnyH_ready (rs := [6]) (by kernel_rfl) (by simp) ?_
              refine AllReadyH.cons (o := { dst := some 99, op := Go.Op.call { callee := Go.Callee.value (Go.Operand.func 13), args := #[Go.Operand.tmp 98], argTypes := #[44] }, type := 51, pos := "law.go:187", after := #[{ on := 5, ground := Go.Ground.data }], guard := none }) rfl (fun K hK => ?_) AllReadyH.nil
              go_simp
              refine (known_any (o2 o).x pq _ (K9.out.2.2.keep (Below.refl _ _).drew) HPN.out).mono ?_
              rintro r w10 ⟨ya, yc, rfl, hrow, hb⟩
              obtain ⟨y, hy⟩ : ∃ y : KV, y = { (o2 o).x with pa := ya, pc := yc } := ⟨_, rfl⟩
              have HY2 : Kp (y.d = 2) := ⟨by rw [hy]; rfl⟩
              have K10 : Kp (AP W0 t B5 k T w10 ∧ Blk w10 O (o2 o).obj ∧ PathOK w10 t y pq) := ⟨(K9.out.1.more (Below.refl _ _).drew).more hb, K9.out.2.1.draw.keep hb, by
                rw [hy]
                obtain ⟨hB, hn, hl⟩ := K9.out.2.2.row
                exact PathOK.ofRow (x := (o2 o).x) hB HPN.out hl (show t < w9.heap.size + 2 by have := K9.out.1.own.own.blk.lt; omega) hrow⟩
              rw [← hy]
              clear hb hrow hy K9
              refine hK.out _ _ (K10.out.2.1) (fun hHn => ?_)
              clear hK K hH
              have hH := hHn
              clear hHn
              try simp only [Act.put, List.setIfInBounds_toArray, List.set_cons_zero, List.set_cons_succ]
              refine wpAnyH_ready (rs := [8]) (by kernel_rfl) (by simp) ?_
              refine AllReadyH.cons (o := { dst := some 101, op := Go.Op.call { callee := Go.Callee.value (Go.Operand.func 14), args := #[Go.Operand.tmp 93, Go.Operand.tmp 94, Go.Operand.tmp 96, Go.Operand.tmp 99, Go.Operand.tmp 100, Go.Operand.const (Go.Value.bool false)], argTypes := #[25, 2, 3, 51, 47, 4] }, type := 53, pos := "law.go:187", after := #[{ on := 0, ground := Go.Ground.data }, { on := 1, ground := Go.Ground.data }, { on := 3, ground := Go.Ground.data }, { on := 6, ground := Go.Ground.data }, { on := 7, ground := Go.Ground.data }, { on := 6, ground := Go.Ground.chain }], guard := none }) rfl (fun K hK => ?_) AllReadyH.nil
              go_simp
              refine (ownp_offer (fl := k0) HG.out HY2.out HF.out K10.out.2.2 A0.out K10.out.1.own).mono ?_
              rintro r w11 ⟨⟨e1, e2, rfl⟩, ⟨T2, hA, hO⟩, hkeep⟩
              have A2 := Kp.mk hA
              have K11 : Kp (AP W0 t B5 k T2 w11 ∧ Blk w11 O (o2 o).obj) := ⟨HAP.out _ _ hO, hkeep _ _ K10.out.2.1 HOT.out⟩
              clear hA hO hkeep K10
              refine hK.out _ _ (K11.out.2) (fun hHn => ?_)
              clear hK K hH
              have hH := hHn
              clear hHn
              try simp only [Act.put, List.setIfInBounds_toArray, List.set_cons_zero, List.set_cons_succ]
              clear hH
              refine wpAnyH_done (by kernel_rfl) ?_ _
              go_wp2_with fail
              refine (ownp_get HG.out A2.out K11.out.1.own).mono ?_
              rintro r w12 ⟨⟨kk, n9, s9, y9, rfl, hge⟩, hO⟩
              have KC := Kp.mk (HAP.out _ _ hO)
              obtain ⟨V, hV⟩ : ∃ V, V = cmpK kk k := ⟨_, rfl⟩
              have HC := fun wx => compare_any kk k wx
              rw [← hV] at HC hge
              have hdec : decide (V < 0) = false := by simp; omega
              obtain ⟨X, hX⟩ : ∃ X, X = w12.heap.size := ⟨_, rfl⟩
              have HX := Kp.mk hX
              obtain ⟨q, hq⟩ : ∃ q, q = rtc 2 kk n9 true s9 y9 := ⟨_, rfl⟩
              have HQ : Kp ((Try.prog.info? 70).map (·.size) = some q.toArray.size ∧ q.toArray.size = 28 ∧ ∀ v ∈ q, v.oneCell' = true) := ⟨by rw [hq]; exact ⟨info70s _ _ _ _ _ _, rfl, rtc_one _ _ _ _ _ _⟩⟩
              have HQK : Kp (∀ wx, Blk wx X (.cells q.toArray 70) → wx.rangeAt X 1 (kc kk)) := ⟨fun wx hx => by rw [hq] at hx; exact Blk.range (cs := rtc 2 kk n9 true s9 y9) (o := 1) hx rfl⟩
              rw [show (rtc 2 kk n9 true s9 y9) = q from hq.symm]
              have K13 : Kp (AP W0 t B5 k T2 (w12.alloc (.cells q.toArray 70)) ∧ Blk (w12.alloc (.cells q.toArray 70)) X (.cells q.toArray 70)) := ⟨KC.out.more (more (Below.refl _ _) _), Blk.newAt _ hX⟩
              clear hO hV hge hX hq KC K11
              go_upto_region 21 with (first
                | (refine wpList_alloc_row rfl 70 rfl rt0.toArray 28 info70z ?_)
                | (refine wpList_store_row rfl 70 (.tmp 16) (.tmp 112) rfl w12.heap.size q.toArray rfl rfl 70 _ (Blk.new _ _) HQ.out.1 (by rw [HQ.out.2.1]; rfl) (all_oneCell_toArray HQ.out.2.2) ?_
                   rw [World.setRow_alloc_new]))
              rw [← HX.out]
              revert K13
              generalize w12.alloc (.cells q.toArray 70) = w13
              intro K13
              refine wp_region_flow (fun w' => AP W0 t B5 k T2 w' ∧ Blk w' X (.cells q.toArray 70)) (by kernel_rfl) (by kernel_rfl) (by kernel_rfl)
                (fun _ _ h hb => ⟨h.1.more hb, h.2.keep hb⟩) (⟨K13.out.1.more (Below.refl _ _).drew, K13.out.2.draw⟩) ?_
              repeat (first
                | (apply Flow.idle
                   · rfl
                   try simp only [Act.put, List.setIfInBounds_toArray, List.set_cons_zero, List.set_cons_succ])
                | (apply Flow.value
                   · rfl
                   · (intro wx hS; exact exec_load_mid (cs := kc kk) rfl rfl (HQK.out _ hS.2) Try.underlying47 rfl (by kernel_rfl))
                   try simp only [Act.put, List.setIfInBounds_toArray, List.set_cons_zero, List.set_cons_succ])
                | (apply Flow.value
                   · rfl
                   · (intro wx hS; exact exec_load_mid (cs := kc k) rfl rfl (Blk.range (cs := kc k) (o := 0) hS.1.kb rfl) Try.underlying40 rfl (by kernel_rfl))
                   try simp only [Act.put, List.setIfInBounds_toArray, List.set_cons_zero, List.set_cons_succ])
                | (apply Flow.call
                   · rfl
                   · intro wx hS; go_simp; constructor <;> with_reducible rfl
                   · intro wx hS; exact kto_any k wx
                   try simp only [Act.put, List.setIfInBounds_toArray, List.set_cons_zero, List.set_cons_succ])
                | (apply Flow.call
                   · rfl
                   · intro wx hS; go_simp; constructor <;> with_reducible rfl
                   · intro wx hS; exact HC wx
                   try simp only [Act.put, List.setIfInBounds_toArray, List.set_cons_zero, List.set_cons_succ])
                | (apply Flow.value
                   · rfl
                   · (intro wx hS; skip; go_simp; with_reducible rfl)
                   try simp only [Act.put, List.setIfInBounds_toArray, List.set_cons_zero, List.set_cons_succ]))
              refine Flow.done ?_
              intro w14 hS
              have K14 := Kp.mk hS.1
              clear hS K13 HC hdec
              go_wp2_with fail
              exact ⟨⟨j + 1, T2, nw, by omega, by go_num, rfl, HNW.out, A2, K14⟩, by simp [intOf]; omega⟩
            · by_cases hk1 : o.kind = 1
              · rw [hk1] at c0
                clear hk0 hk1
                go_wp2_with fail
                rw [hnw]
                refine (ownp_break HG.out HF.out HTM.out HH.out A0.out K7.out.1.own).mono ?_
                rintro r w9 ⟨⟨a9, n9, c9, rfl⟩, T2, hA, hO⟩
                have A2 := Kp.mk hA
                have K11 : Kp (AP W0 t B5 k T2 w9 ∧ True) := ⟨HAP.out _ _ hO, trivial⟩
                clear hA hO K7 K0 c0 c1 c2 c3 hf
                go_wp2_with fail
                refine (ownp_get HG.out A2.out K11.out.1.own).mono ?_
                rintro r w12 ⟨⟨kk, n9, s9, y9, rfl, hge⟩, hO⟩
                have KC := Kp.mk (HAP.out _ _ hO)
                obtain ⟨V, hV⟩ : ∃ V, V = cmpK kk k := ⟨_, rfl⟩
                have HC := fun wx => compare_any kk k wx
                rw [← hV] at HC hge
                have hdec : decide (V < 0) = false := by simp; omega
                obtain ⟨X, hX⟩ : ∃ X, X = w12.heap.size := ⟨_, rfl⟩
                have HX := Kp.mk hX
                obtain ⟨q, hq⟩ : ∃ q, q = rtc 2 kk n9 true s9 y9 := ⟨_, rfl⟩
                have HQ : Kp ((Try.prog.info? 70).map (·.size) = some q.toArray.size ∧ q.toArray.size = 28 ∧ ∀ v ∈ q, v.oneCell' = true) := ⟨by rw [hq]; exact ⟨info70s _ _ _ _ _ _, rfl, rtc_one _ _ _ _ _ _⟩⟩
                have HQK : Kp (∀ wx, Blk wx X (.cells q.toArray 70) → wx.rangeAt X 1 (kc kk)) := ⟨fun wx hx => by rw [hq] at hx; exact Blk.range (cs := rtc 2 kk n9 true s9 y9) (o := 1) hx rfl⟩
                rw [show (rtc 2 kk n9 true s9 y9) = q from hq.symm]
                have K13 : Kp (AP W0 t B5 k T2 (w12.alloc (.cells q.toArray 70)) ∧ Blk (w12.alloc (.cells q.toArray 70)) X (.cells q.toArray 70)) := ⟨KC.out.more (more (Below.refl _ _) _), Blk.newAt _ hX⟩
                clear hO hV hge hX hq KC K11
                go_upto_region 21 with (first
                  | (refine wpList_alloc_row rfl 70 rfl rt0.toArray 28 info70z ?_)
                  | (refine wpList_store_row rfl 70 (.tmp 16) (.tmp 112) rfl w12.heap.size q.toArray rfl rfl 70 _ (Blk.new _ _) HQ.out.1 (by rw [HQ.out.2.1]; rfl) (all_oneCell_toArray HQ.out.2.2) ?_
                     rw [World.setRow_alloc_new]))
                rw [← HX.out]
                revert K13
                generalize w12.alloc (.cells q.toArray 70) = w13
                intro K13
                refine wp_region_flow (fun w' => AP W0 t B5 k T2 w' ∧ Blk w' X (.cells q.toArray 70)) (by kernel_rfl) (by kernel_rfl) (by kernel_rfl)
                  (fun _ _ h hb => ⟨h.1.more hb, h.2.keep hb⟩) (⟨K13.out.1.more (Below.refl _ _).drew, K13.out.2.draw⟩) ?_
                repeat (first
                  | (apply Flow.idle
                     · rfl
                     try simp only [Act.put, List.setIfInBounds_toArray, List.set_cons_zero, List.set_cons_succ])
                  | (apply Flow.value
                     · rfl
                     · (intro wx hS; exact exec_load_mid (cs := kc kk) rfl rfl (HQK.out _ hS.2) Try.underlying47 rfl (by kernel_rfl))
                     try simp only [Act.put, List.setIfInBounds_toArray, List.set_cons_zero, List.set_cons_succ])
                  | (apply Flow.value
                     · rfl
                     · (intro wx hS; exact exec_load_mid (cs := kc k) rfl rfl (Blk.range (cs := kc k) (o := 0) hS.1.kb rfl) Try.underlying40 rfl (by kernel_rfl))
                     try simp only [Act.put, List.setIfInBounds_toArray, List.set_cons_zero, List.set_cons_succ])
                  | (apply Flow.call
                     · rfl
                     · intro wx hS; go_simp; constructor <;> with_reducible rfl
                     · intro wx hS; exact kto_any k wx
                     try simp only [Act.put, List.setIfInBounds_toArray, List.set_cons_zero, List.set_cons_succ])
                  | (apply Flow.call
                     · rfl
                     · intro wx hS; go_simp; constructor <;> with_reducible rfl
                     · intro wx hS; exact HC wx
                     try simp only [Act.put, List.setIfInBounds_toArray, List.set_cons_zero, List.set_cons_succ])
                  | (apply Flow.value
                     · rfl
                     · (intro wx hS; skip; go_simp; with_reducible rfl)
                     try simp only [Act.put, List.setIfInBounds_toArray, List.set_cons_zero, List.set_cons_succ]))
                refine Flow.done ?_
                intro w14 hS
                have K14 := Kp.mk hS.1
                clear hS K13 HC hdec
                go_wp2_with fail
                exact ⟨⟨j + 1, T2, nw, by omega, by go_num, rfl, HNW.out, A2, K14⟩, by simp [intOf]; omega⟩
              · have A2 := A0
                have K11 : Kp (AP W0 t B5 k T w7 ∧ True) := ⟨K7.out.1, trivial⟩
                clear K0
                go_wp2_with fail
                rw [hnw]
                refine (ownp_get HG.out A2.out K11.out.1.own).mono ?_
                rintro r w12 ⟨⟨kk, n9, s9, y9, rfl, hge⟩, hO⟩
                have KC := Kp.mk (HAP.out _ _ hO)
                obtain ⟨V, hV⟩ : ∃ V, V = cmpK kk k := ⟨_, rfl⟩
                have HC := fun wx => compare_any kk k wx
                rw [← hV] at HC hge
                have hdec : decide (V < 0) = false := by simp; omega
                obtain ⟨X, hX⟩ : ∃ X, X = w12.heap.size := ⟨_, rfl⟩
                have HX := Kp.mk hX
                obtain ⟨q, hq⟩ : ∃ q, q = rtc 2 kk n9 true s9 y9 := ⟨_, rfl⟩
                have HQ : Kp ((Try.prog.info? 70).map (·.size) = some q.toArray.size ∧ q.toArray.size = 28 ∧ ∀ v ∈ q, v.oneCell' = true) := ⟨by rw [hq]; exact ⟨info70s _ _ _ _ _ _, rfl, rtc_one _ _ _ _ _ _⟩⟩
                have HQK : Kp (∀ wx, Blk wx X (.cells q.toArray 70) → wx.rangeAt X 1 (kc kk)) := ⟨fun wx hx => by rw [hq] at hx; exact Blk.range (cs := rtc 2 kk n9 true s9 y9) (o := 1) hx rfl⟩
                rw [show (rtc 2 kk n9 true s9 y9) = q from hq.symm]
                have K13 : Kp (AP W0 t B5 k T (w12.alloc (.cells q.toArray 70)) ∧ Blk (w12.alloc (.cells q.toArray 70)) X (.cells q.toArray 70)) := ⟨KC.out.more (more (Below.refl _ _) _), Blk.newAt _ hX⟩
                clear hO hV hge hX hq KC K11
                go_upto_region 21 with (first
                  | (refine wpList_alloc_row rfl 70 rfl rt0.toArray 28 info70z ?_)
                  | (refine wpList_store_row rfl 70 (.tmp 16) (.tmp 112) rfl w12.heap.size q.toArray rfl rfl 70 _ (Blk.new _ _) HQ.out.1 (by rw [HQ.out.2.1]; rfl) (all_oneCell_toArray HQ.out.2.2) ?_
                     rw [World.setRow_alloc_new]))
                rw [← HX.out]
                revert K13
                generalize w12.alloc (.cells q.toArray 70) = w13
                intro K13
                refine wp_region_flow (fun w' => AP W0 t B5 k T w' ∧ Blk w' X (.cells q.toArray 70)) (by kernel_rfl) (by kernel_rfl) (by kernel_rfl)
                  (fun _ _ h hb => ⟨h.1.more hb, h.2.keep hb⟩) (⟨K13.out.1.more (Below.refl _ _).drew, K13.out.2.draw⟩) ?_
                repeat (first
                  | (apply Flow.idle
                     · rfl
                     try simp only [Act.put, List.setIfInBounds_toArray, List.set_cons_zero, List.set_cons_succ])
                  | (apply Flow.value
                     · rfl
                     · (intro wx hS; exact exec_load_mid (cs := kc kk) rfl rfl (HQK.out _ hS.2) Try.underlying47 rfl (by kernel_rfl))
                     try simp only [Act.put, List.setIfInBounds_toArray, List.set_cons_zero, List.set_cons_succ])
                  | (apply Flow.value
                     · rfl
                     · (intro wx hS; exact exec_load_mid (cs := kc k) rfl rfl (Blk.range (cs := kc k) (o := 0) hS.1.kb rfl) Try.underlying40 rfl (by kernel_rfl))
                     try simp only [Act.put, List.setIfInBounds_toArray, List.set_cons_zero, List.set_cons_succ])
                  | (apply Flow.call
                     · rfl
                     · intro wx hS; go_simp; constructor <;> with_reducible rfl
                     · intro wx hS; exact kto_any k wx
                     try simp only [Act.put, List.setIfInBounds_toArray, List.set_cons_zero, List.set_cons_succ])
                  | (apply Flow.call
                     · rfl
                     · intro wx hS; go_simp; constructor <;> with_reducible rfl
                     · intro wx hS; exact HC wx
                     try simp only [Act.put, List.setIfInBounds_toArray, List.set_cons_zero, List.set_cons_succ])
                  | (apply Flow.value
                     · rfl
                     · (intro wx hS; skip; go_simp; with_reducible rfl)
                     try simp only [Act.put, List.setIfInBounds_toArray, List.set_cons_zero, List.set_cons_succ]))
                refine Flow.done ?_
                intro w14 hS
                have K14 := Kp.mk hS.1
                clear hS K13 HC hdec
                go_wp2_with fail
                exact ⟨⟨j + 1, T, nw, by omega, by go_num, rfl, HNW.out, A2, K14⟩, by simp [intOf]; omega⟩
    · have hjl' : (len : Int) ≤ (j : Int) := by omega
      go_wp2_with fail
      go_ret
      exact ⟨rfl, U.out.2.2.trans (K0.out.own.own.hb.mono U.out.2.2.size)⟩
end Go.Proofs.Ytfpmmbbbndobiaa
