/-
  SettleSoon: the walk.
-/
import Derived.Test.YtfnjfoconklhiaaStZC
import Derived.Deep.DeepCutAuto
namespace Go.Proofs.Ytfnjfoconklhiaa
open Go.RowKit Go.Maps

set_option maxRecDepth 100000 in
set_option maxHeartbeats 25600000 in
theorem settleSoon_walk (x0 x1 : Int) (ad : Option Addr) (len cap : Nat) (ol : List OpV) (w : World) (_ : (Lit.int .i64 x0).wf = true) (_ : (Lit.int .i64 x1).wf = true) (hops : IsOps w ad len ol) :
    Calls Try.prog 4 #[.agg #[.int .i64 x0, .int .i64 x1], .slice ad len cap] w fun r w' => r = .returned (.bool true) ∧ Below w.heap.size w w' := by
  obtain ⟨P, Q, hP, hQ, hP1, hQ1⟩ := rule_in x0 x1
  have hrt : rtB P Q = true := by simp [rtB]; omega
  have HN := fun w1 => new_yes P Q w1 hrt
  have HOK := Kp.mk (ps0_ok hrt)
  have HOPS := Kp.mk hops
  have HPQ := Kp.mk (And.intro hP1 hQ1)
  have hlm : len ≤ 9223372036854775807 := by have := hops.max; unfold maxLen at this; omega
  obtain ⟨B, hB⟩ : ∃ B, B = w.heap.size := ⟨_, rfl⟩
  obtain ⟨W0, hW0⟩ : ∃ W0, W0 = w.alloc (.cells #[.int .i64 P, .int .i64 Q] 23) := ⟨_, rfl⟩
  have U : Kp (Blk W0 B (.cells #[.int .i64 P, .int .i64 Q] 23) ∧ Below w.heap.size w W0) := ⟨by rw [hW0]; exact ⟨Blk.newAt _ hB, more (Below.refl _ _) _⟩⟩
  have HE := Kp.mk hB
  have HWE := Kp.mk hW0
  have hmm := @run_makeMap Try.prog
  clear hrt hops hB hW0 hP1 hQ1
  go_enter Try.func4, Try.ntmps4
  go_wp2_with fail
  rw [hP, hQ]
  clear hP hQ
  rw [← HWE.out, ← HE.out]
  refine (HN _).mono ?_
  rintro r w1 ⟨t, rfl, h1, h2, h3⟩
  have K := Kp.mk (Own.mk h1 h2 h3 HOK.out)
  clear h1 h2 h3 HN
  go_wp2_with fail
  refine (awake_any _).mono ?_
  rintro r w2 ⟨rfl, hb⟩
  have K2 := Kp.mk (K.out.more hb)
  clear hb K
  go_wp2_with fail
  obtain ⟨b1, hb1⟩ : ∃ b, b = w2.heap.size := ⟨_, rfl⟩
  have HB1 := Kp.mk hb1
  have K3 := Kp.mk (SW.start (P := P) (Q := Q) K2.out rfl rfl)
  clear K2
  rw [← hb1] at K3 ⊢
  clear hb1
  obtain ⟨b2, hb2⟩ : ∃ b, b = b1 + 1 := ⟨_, rfl⟩
  obtain ⟨b3, hb3⟩ : ∃ b, b = b1 + 2 := ⟨_, rfl⟩
  rw [← hb2, ← hb3] at K3
  rw [show b1 + 1 + 1 = b3 from hb3.symm, ← hb2]
  clear hb2 hb3
  generalize ((w2.alloc (.map #[] 0)).alloc (.map #[] 0)).alloc (.map #[] 0) = w3 at K3 ⊢
  have M3 := Kp.mk (SM.start P Q)
  have L3 : Kp (lastM (ps0 P Q) = -1) := ⟨rfl⟩
  obtain ⟨p0, hp0⟩ : ∃ p, p = ps0 P Q := ⟨_, rfl⟩
  rw [← hp0] at K3 M3 L3
  clear hp0 HOK
  go_loopw [7, 10, 11, 12, 14, 15, 17, 18, 19, 21, 22, 23, 24, 25, 56] (fun s l _ _ _ _ _ _ _ _ _ _ _ _ c wr => ∃ (k : Nat) (p : PS) (S : Int → Int) (D1 D2 D3 : DataW Unit) (b n : Nat), k ≤ 60 ∧ n ≤ 120 * k ∧ c = .int .i64 k ∧ s = .map (some b) ∧ l = .int .i64 (lastM p) ∧ Kp (SW W0 t b b2 b3 n P Q p D1 D2 D3 wr) ∧ Kp (SM p k S D1 D2 D3)) (fun _ _ _ _ _ _ _ _ _ _ _ _ _ _ c _ => 60 - (intOf c).toNat)
  case atStart => exact ⟨0, p0, _, _, _, _, b1, 0, by omega, by omega, rfl, rfl, by rw [L3.out], K3, M3⟩
  case round =>
    clear K3 M3 L3
    obtain ⟨k, p, S, D1, D2, D3, b, n, hk, hn, rfl, rfl, rfl, K0, M0⟩ := hrel
    obtain ⟨L0, hL0⟩ : ∃ L0, L0 = lastM p := ⟨_, rfl⟩
    rw [← hL0]
    have HL0 := Kp.mk hL0
    clear hL0
    by_cases hlt : k < 60
    · have t1 : (k : Int) < 60 := by omega
      have HK := Kp.mk (And.intro hlt hn)
      clear hk hn hlt
      go_wp2_with fail
      go_loopw [12, 14, 15, 17, 61] (fun _ _ _ _ c wr => ∃ (i : Nat) (q : PS) (T : Int → Int) (E1 E2 E3 : DataW Unit) (m : Nat), i ≤ len ∧ m ≤ n + 3 * min i 40 ∧ c = .int .i64 i ∧ Kp (SW W0 t b b2 b3 m P Q q E1 E2 E3 wr) ∧ Kp (SM q k T E1 E2 E3) ∧ Kp (lastM q = L0)) (fun _ _ _ _ c _ => len - (intOf c).toNat)
      case atStart => exact ⟨0, p, S, D1, D2, D3, n, by omega, by omega, rfl, K0, M0, ⟨HL0.out.symm⟩⟩
      case round =>
        clear K0 M0 HL0
        obtain ⟨i, q, T, E1, E2, E3, m, hi, hm, rfl, K1, M1, HL1⟩ := hrel
        by_cases hil : i < len
        · have hil' : (i : Int) < (len : Int) := by omega
          have HIL := Kp.mk (And.intro hil hm)
          obtain ⟨eb, off, rfl, he1, hc⟩ := HOPS.out.cells i (by rw [HOPS.out.eq]; exact hil)
          have HRG : Kp (wr.rangeAt eb (off + i * 7) (ocells (ol[i]'(by rw [HOPS.out.eq]; exact hil)))) := ⟨rangeAt_below (K1.out.own.hb.mono (Nat.le_refl _)) (Nat.lt_of_lt_of_le he1 U.out.2.size) (rangeAt_below U.out.2 he1 hc)⟩
          clear hc he1 hi hm
          generalize ol[i]'(by rw [HOPS.out.eq]; exact hil) = o at HRG
          clear hil
          obtain ⟨O, hO⟩ : ∃ O, O = wr.heap.size := ⟨_, rfl⟩
          have HOE := Kp.mk hO
          clear hO
          go_upto_region 13 with (first
            | (refine wpList_load_mid rfl 42 (.tmp 64) rfl eb (off + i * 7) rfl (ocells o) _ HRG.out Try.underlying42 rfl (by kernel_rfl) ?_)
            | (refine wpList_store_row rfl 42 (.tmp 13) (.tmp 65) rfl wr.heap.size (ocells o).toArray rfl rfl 42 _ (Blk.newAt _ rfl) (info42s o) rfl (all_oneCell_toArray (ocells_one o)) ?_
               rw [World.setRow_alloc_new]
               refine wpl_world (fun W => SW W0 t b b2 b3 m P Q q E1 E2 E3 W ∧ Blk W O o.obj) ⟨K1.out.keep (more (Below.refl _ _) _), Blk.newAt _ HOE.out⟩ ?_
               rw [← HOE.out]
               intro W7 hW7
               have K7 := Kp.mk hW7
               clear hW7))
          clear HRG K1 HOE
          obtain ⟨tau, htau⟩ : ∃ x, IntKind.i64.wrap ((IntKind.u64.wrap o.now).tmod 60) = x := ⟨_, rfl⟩
          by_cases h40 : i < 40
          · have h40' : (i : Int) < 40 := by omega
            have H40 := Kp.mk h40
            clear h40
            by_cases hx : tau = (k : Int)
            · subst hx
              cases hB : noteB k o.dest o.e o.s o.m with
              | false =>
                refine wp_region_held_drew (S := fun w' => Blk w' O o.obj) (by kernel_rfl) (K7.out.2.draw) (fun hH => ?_)
                refine wpAnyH_take (i := 0) (oi := { dst := some 66, op := Go.Op.move (Go.Operand.tmp 12), type := 3, pos := "law.go:93", after := #[], guard := none }) (v := .int .i64 i) rfl (by kernel_rfl) (by kernel_rfl) (by kernel_rfl) (fun _ _ _ h => h) (Or.inl ⟨by rfl, fun w hS => by obtain ⟨c0, c1, c2, c3, c4, c5, c6⟩ := ocells_at hS; go_simp⟩) hH ?_
                simp only [Act.put, List.setIfInBounds_toArray, List.set_cons_zero, List.set_cons_succ]
                refine wpAnyH_take (i := 1) (oi := { dst := some 67, op := Go.Op.binOp Go.BinOp.lss 3 (Go.Operand.tmp 66) (Go.Operand.const (Go.Value.int Go.IntKind.i64 40)) 3, type := 4, pos := "law.go:93", after := #[{ on := 0, ground := Go.Ground.data }], guard := none }) (v := .bool true) rfl (by kernel_rfl) (by kernel_rfl) (by kernel_rfl) (fun _ _ _ h => h) (Or.inl ⟨by rfl, fun w hS => by obtain ⟨c0, c1, c2, c3, c4, c5, c6⟩ := ocells_at hS; go_simp⟩) hH ?_
                simp only [Act.put, List.setIfInBounds_toArray, List.set_cons_zero, List.set_cons_succ]
                refine wpAnyH_take (i := 2) (oi := { dst := some 68, op := Go.Op.move (Go.Operand.tmp 67), type := 4, pos := "law.go:93", after := #[{ on := 1, ground := Go.Ground.data }], guard := none }) (v := .bool true) rfl (by kernel_rfl) (by kernel_rfl) (by kernel_rfl) (fun _ _ _ h => h) (Or.inl ⟨by rfl, fun w hS => by obtain ⟨c0, c1, c2, c3, c4, c5, c6⟩ := ocells_at hS; go_simp⟩) hH ?_
                simp only [Act.put, List.setIfInBounds_toArray, List.set_cons_zero, List.set_cons_succ]
                refine wpAnyH_take (i := 3) (oi := { dst := some 69, op := Go.Op.fieldAddr 42 (Go.Operand.tmp 13) 1, type := 0, pos := "law.go:93", after := #[{ on := 2, ground := Go.Ground.guard }], guard := some (2, true) }) (v := .pointer (some ⟨O, 1, none⟩)) rfl (by kernel_rfl) (by kernel_rfl) (by kernel_rfl) (fun _ _ _ h => h) (Or.inl ⟨by rfl, fun w hS => by obtain ⟨c0, c1, c2, c3, c4, c5, c6⟩ := ocells_at hS; go_simp⟩) hH ?_
                simp only [Act.put, List.setIfInBounds_toArray, List.set_cons_zero, List.set_cons_succ]
                refine wpAnyH_take (i := 4) (oi := { dst := some 70, op := Go.Op.load 2 (Go.Operand.tmp 69), type := 2, pos := "law.go:93", after := #[{ on := 3, ground := Go.Ground.data }, { on := 2, ground := Go.Ground.guard }], guard := some (2, true) }) (v := .int .i64 o.now) rfl (by kernel_rfl) (by kernel_rfl) (by kernel_rfl) (fun _ _ _ h => h) (Or.inl ⟨by rfl, fun w hS => by obtain ⟨c0, c1, c2, c3, c4, c5, c6⟩ := ocells_at hS; go_simp⟩) hH ?_
                simp only [Act.put, List.setIfInBounds_toArray, List.set_cons_zero, List.set_cons_succ]
                refine wpAnyH_take (i := 5) (oi := { dst := some 71, op := Go.Op.convert 2 62 (Go.Operand.tmp 70), type := 62, pos := "law.go:93", after := #[{ on := 4, ground := Go.Ground.data }, { on := 2, ground := Go.Ground.guard }], guard := some (2, true) }) (v := .int .u64 (IntKind.u64.wrap o.now)) rfl (by kernel_rfl) (by kernel_rfl) (by kernel_rfl) (fun _ _ _ h => h) (Or.inl ⟨by rfl, fun w hS => by obtain ⟨c0, c1, c2, c3, c4, c5, c6⟩ := ocells_at hS; go_simp⟩) hH ?_
                simp only [Act.put, List.setIfInBounds_toArray, List.set_cons_zero, List.set_cons_succ]
                refine wpAnyH_take (i := 6) (oi := { dst := some 72, op := Go.Op.binOp Go.BinOp.rem 62 (Go.Operand.tmp 71) (Go.Operand.const (Go.Value.int Go.IntKind.u64 60)) 62, type := 62, pos := "law.go:93", after := #[{ on := 5, ground := Go.Ground.data }, { on := 2, ground := Go.Ground.guard }], guard := some (2, true) }) (v := .int .u64 ((IntKind.u64.wrap o.now).tmod 60)) rfl (by kernel_rfl) (by kernel_rfl) (by kernel_rfl) (fun _ _ _ h => h) (Or.inl ⟨by rfl, fun w hS => by obtain ⟨c0, c1, c2, c3, c4, c5, c6⟩ := ocells_at hS; go_simp⟩) hH ?_
                simp only [Act.put, List.setIfInBounds_toArray, List.set_cons_zero, List.set_cons_succ]
                refine wpAnyH_take (i := 7) (oi := { dst := some 73, op := Go.Op.convert 62 2 (Go.Operand.tmp 72), type := 2, pos := "law.go:93", after := #[{ on := 6, ground := Go.Ground.data }, { on := 2, ground := Go.Ground.guard }], guard := some (2, true) }) (v := .int .i64 k) rfl (by kernel_rfl) (by kernel_rfl) (by kernel_rfl) (fun _ _ _ h => h) (Or.inl ⟨by rfl, fun w hS => by obtain ⟨c0, c1, c2, c3, c4, c5, c6⟩ := ocells_at hS; go_simp⟩) hH ?_
                simp only [Act.put, List.setIfInBounds_toArray, List.set_cons_zero, List.set_cons_succ]
                refine wpAnyH_take (i := 8) (oi := { dst := some 74, op := Go.Op.move (Go.Operand.tmp 11), type := 2, pos := "law.go:93", after := #[{ on := 2, ground := Go.Ground.guard }], guard := some (2, true) }) (v := .int .i64 k) rfl (by kernel_rfl) (by kernel_rfl) (by kernel_rfl) (fun _ _ _ h => h) (Or.inl ⟨by rfl, fun w hS => by obtain ⟨c0, c1, c2, c3, c4, c5, c6⟩ := ocells_at hS; go_simp⟩) hH ?_
                simp only [Act.put, List.setIfInBounds_toArray, List.set_cons_zero, List.set_cons_succ]
                refine wpAnyH_take (i := 9) (oi := { dst := some 75, op := Go.Op.binOp Go.BinOp.eql 2 (Go.Operand.tmp 73) (Go.Operand.tmp 74) 2, type := 4, pos := "law.go:93", after := #[{ on := 7, ground := Go.Ground.data }, { on := 8, ground := Go.Ground.data }, { on := 2, ground := Go.Ground.guard }], guard := some (2, true) }) (v := .bool true) rfl (by kernel_rfl) (by kernel_rfl) (by kernel_rfl) (fun _ _ _ h => h) (Or.inl ⟨by rfl, fun w hS => by obtain ⟨c0, c1, c2, c3, c4, c5, c6⟩ := ocells_at hS; go_simp⟩) hH ?_
                simp only [Act.put, List.setIfInBounds_toArray, List.set_cons_zero, List.set_cons_succ]
                refine wpAnyH_take (i := 10) (oi := { dst := some 76, op := Go.Op.pick (Go.Operand.tmp 68) (Go.Operand.tmp 75) (Go.Operand.const (Go.Value.bool false)), type := 4, pos := "law.go:93", after := #[{ on := 2, ground := Go.Ground.data }, { on := 9, ground := Go.Ground.data }], guard := none }) (v := .bool true) rfl (by kernel_rfl) (by kernel_rfl) (by kernel_rfl) (fun _ _ _ h => h) (Or.inl ⟨by rfl, fun w hS => by obtain ⟨c0, c1, c2, c3, c4, c5, c6⟩ := ocells_at hS; go_simp⟩) hH ?_
                simp only [Act.put, List.setIfInBounds_toArray, List.set_cons_zero, List.set_cons_succ]
                refine wpAnyH_take (i := 11) (oi := { dst := some 77, op := Go.Op.move (Go.Operand.tmp 76), type := 4, pos := "law.go:93", after := #[{ on := 10, ground := Go.Ground.data }, { on := 2, ground := Go.Ground.chain }], guard := none }) (v := .bool true) rfl (by kernel_rfl) (by kernel_rfl) (by kernel_rfl) (fun _ _ _ h => h) (Or.inl ⟨by rfl, fun w hS => by obtain ⟨c0, c1, c2, c3, c4, c5, c6⟩ := ocells_at hS; go_simp⟩) hH ?_
                simp only [Act.put, List.setIfInBounds_toArray, List.set_cons_zero, List.set_cons_succ]
                refine wpAnyH_take (i := 12) (oi := { dst := some 78, op := Go.Op.move (Go.Operand.tmp 5), type := 26, pos := "law.go:93", after := #[{ on := 11, ground := Go.Ground.guard }], guard := some (11, true) }) (v := .pointer (some ⟨t, 0, none⟩)) rfl (by kernel_rfl) (by kernel_rfl) (by kernel_rfl) (fun _ _ _ h => h) (Or.inl ⟨by rfl, fun w hS => by obtain ⟨c0, c1, c2, c3, c4, c5, c6⟩ := ocells_at hS; go_simp⟩) hH ?_
                simp only [Act.put, List.setIfInBounds_toArray, List.set_cons_zero, List.set_cons_succ]
                refine wpAnyH_take (i := 13) (oi := { dst := some 79, op := Go.Op.move (Go.Operand.tmp 11), type := 2, pos := "law.go:93", after := #[{ on := 11, ground := Go.Ground.guard }], guard := some (11, true) }) (v := .int .i64 k) rfl (by kernel_rfl) (by kernel_rfl) (by kernel_rfl) (fun _ _ _ h => h) (Or.inl ⟨by rfl, fun w hS => by obtain ⟨c0, c1, c2, c3, c4, c5, c6⟩ := ocells_at hS; go_simp⟩) hH ?_
                simp only [Act.put, List.setIfInBounds_toArray, List.set_cons_zero, List.set_cons_succ]
                refine wpAnyH_take (i := 14) (oi := { dst := some 80, op := Go.Op.fieldAddr 42 (Go.Operand.tmp 13) 2, type := 0, pos := "law.go:93", after := #[{ on := 11, ground := Go.Ground.guard }], guard := some (11, true) }) (v := .pointer (some ⟨O, 2, none⟩)) rfl (by kernel_rfl) (by kernel_rfl) (by kernel_rfl) (fun _ _ _ h => h) (Or.inl ⟨by rfl, fun w hS => by obtain ⟨c0, c1, c2, c3, c4, c5, c6⟩ := ocells_at hS; go_simp⟩) hH ?_
                simp only [Act.put, List.setIfInBounds_toArray, List.set_cons_zero, List.set_cons_succ]
                refine wpAnyH_take (i := 15) (oi := { dst := some 81, op := Go.Op.load 3 (Go.Operand.tmp 80), type := 3, pos := "law.go:93", after := #[{ on := 14, ground := Go.Ground.data }, { on := 11, ground := Go.Ground.guard }], guard := some (11, true) }) (v := .int .i64 o.dest) rfl (by kernel_rfl) (by kernel_rfl) (by kernel_rfl) (fun _ _ _ h => h) (Or.inl ⟨by rfl, fun w hS => by obtain ⟨c0, c1, c2, c3, c4, c5, c6⟩ := ocells_at hS; go_simp⟩) hH ?_
                simp only [Act.put, List.setIfInBounds_toArray, List.set_cons_zero, List.set_cons_succ]
                refine wpAnyH_take (i := 16) (oi := { dst := some 82, op := Go.Op.fieldAddr 42 (Go.Operand.tmp 13) 3, type := 0, pos := "law.go:93", after := #[{ on := 11, ground := Go.Ground.guard }], guard := some (11, true) }) (v := .pointer (some ⟨O, 3, none⟩)) rfl (by kernel_rfl) (by kernel_rfl) (by kernel_rfl) (fun _ _ _ h => h) (Or.inl ⟨by rfl, fun w hS => by obtain ⟨c0, c1, c2, c3, c4, c5, c6⟩ := ocells_at hS; go_simp⟩) hH ?_
                simp only [Act.put, List.setIfInBounds_toArray, List.set_cons_zero, List.set_cons_succ]
                refine wpAnyH_take (i := 17) (oi := { dst := some 83, op := Go.Op.load 35 (Go.Operand.tmp 82), type := 35, pos := "law.go:93", after := #[{ on := 16, ground := Go.Ground.data }, { on := 11, ground := Go.Ground.guard }], guard := some (11, true) }) (v := keyV o.e o.s o.m) rfl (by kernel_rfl) (by kernel_rfl) (by kernel_rfl) (fun _ _ _ h => h) (Or.inl ⟨by rfl, fun w hS => by obtain ⟨c0, c1, c2, c3, c4, c5, c6⟩ := ocells_at hS; go_simp⟩) hH ?_
                simp only [Act.put, List.setIfInBounds_toArray, List.set_cons_zero, List.set_cons_succ]
                refine wpAnyH_take (i := 19) (oi := { dst := some 85, op := Go.Op.fieldAddr 42 (Go.Operand.tmp 13) 4, type := 0, pos := "law.go:93", after := #[{ on := 11, ground := Go.Ground.guard }], guard := some (11, true) }) (v := .pointer (some ⟨O, 6, none⟩)) rfl (by kernel_rfl) (by kernel_rfl) (by kernel_rfl) (fun _ _ _ h => h) (Or.inl ⟨by rfl, fun w hS => by obtain ⟨c0, c1, c2, c3, c4, c5, c6⟩ := ocells_at hS; go_simp⟩) hH ?_
                simp only [Act.put, List.setIfInBounds_toArray, List.set_cons_zero, List.set_cons_succ]
                refine wpAnyH_take (i := 20) (oi := { dst := some 86, op := Go.Op.load 4 (Go.Operand.tmp 85), type := 4, pos := "law.go:93", after := #[{ on := 19, ground := Go.Ground.data }, { on := 11, ground := Go.Ground.guard }], guard := some (11, true) }) (v := .bool o.u) rfl (by kernel_rfl) (by kernel_rfl) (by kernel_rfl) (fun _ _ _ h => h) (Or.inl ⟨by rfl, fun w hS => by obtain ⟨c0, c1, c2, c3, c4, c5, c6⟩ := ocells_at hS; go_simp⟩) hH ?_
                simp only [Act.put, List.setIfInBounds_toArray, List.set_cons_zero, List.set_cons_succ]
                refine wpAnyH_ready (rs := [18]) (by kernel_rfl) (by simp) ?_
                refine AllReadyH.cons (o := { dst := some 84, op := Go.Op.call { callee := Go.Callee.value (Go.Operand.func 13), args := #[Go.Operand.tmp 83], argTypes := #[35] }, type := 46, pos := "law.go:93", after := #[{ on := 17, ground := Go.Ground.data }, { on := 11, ground := Go.Ground.chain }, { on := 11, ground := Go.Ground.guard }], guard := some (11, true) }) rfl (fun K hK => ?_) AllReadyH.nil
                go_simp
                refine (kto_any o.e o.s o.m _).mono ?_
                rintro r w10 ⟨rfl, hb⟩
                have K10 : Kp (SW W0 t b b2 b3 m P Q q E1 E2 E3 w10 ∧ Blk w10 O o.obj) := ⟨K7.out.1.drew.keep hb, K7.out.2.draw.keep hb⟩
                clear hb
                refine hK.out _ _ (K10.out.2) (fun hHn => ?_)
                clear hK K hH
                have hH := hHn
                clear hHn
                try simp only [Act.put, List.setIfInBounds_toArray, List.set_cons_zero, List.set_cons_succ]
                refine wpAnyH_ready (rs := [21]) (by kernel_rfl) (by simp) ?_
                refine AllReadyH.cons (o := { dst := some 87, op := Go.Op.call { callee := Go.Callee.value (Go.Operand.func 12), args := #[Go.Operand.tmp 78, Go.Operand.tmp 79, Go.Operand.tmp 81, Go.Operand.tmp 84, Go.Operand.tmp 86], argTypes := #[26, 2, 3, 46, 4] }, type := 27, pos := "law.go:93", after := #[{ on := 12, ground := Go.Ground.data }, { on := 13, ground := Go.Ground.data }, { on := 15, ground := Go.Ground.data }, { on := 18, ground := Go.Ground.data }, { on := 20, ground := Go.Ground.data }, { on := 18, ground := Go.Ground.chain }, { on := 11, ground := Go.Ground.guard }], guard := some (11, true) }) rfl (fun K hK => ?_) AllReadyH.nil
                go_simp
                refine (note_any q k o.dest o.e o.s o.m o.u t _ K10.out.1.own.blk).mono ?_
                rintro r w11 ⟨rfl, hT⟩
                rw [if_neg (by rw [hB]; simp)]
                have HR := note_rest q k o.dest o.e o.s o.m o.u
                have K11 : Kp (SW W0 t b b2 b3 m P Q (q.note k o.dest o.e o.s o.m o.u) E1 E2 E3 w11 ∧ Blk w11 O o.obj) := ⟨K10.out.1.turn hT (K10.out.1.own.ok.note _ _ _ _ _ _) HR.2.2.1 HR.2.2.2, Blk_turn K10.out.2 K10.out.1.own.blk hT (by decide)⟩
                clear hT HR
                refine hK.out _ _ (K11.out.2) (fun hHn => ?_)
                clear hK K hH
                have hH := hHn
                clear hHn
                try simp only [Act.put, List.setIfInBounds_toArray, List.set_cons_zero, List.set_cons_succ]
                refine wpAnyH_take (i := 22) (oi := { dst := some 88, op := Go.Op.binOp Go.BinOp.eql 27 (Go.Operand.tmp 87) (Go.Operand.const (Go.Value.int Go.IntKind.i64 0)) 27, type := 4, pos := "law.go:93", after := #[{ on := 21, ground := Go.Ground.data }, { on := 11, ground := Go.Ground.guard }], guard := some (11, true) }) (v := .bool false) rfl (by kernel_rfl) (by kernel_rfl) (by kernel_rfl) (fun _ _ _ h => h) (Or.inl ⟨by rfl, fun w hS => by go_simp⟩) hH ?_
                simp only [Act.put, List.setIfInBounds_toArray, List.set_cons_zero, List.set_cons_succ]
                refine wpAnyH_take (i := 23) (oi := { dst := some 89, op := Go.Op.pick (Go.Operand.tmp 77) (Go.Operand.tmp 88) (Go.Operand.const (Go.Value.bool false)), type := 4, pos := "law.go:93", after := #[{ on := 11, ground := Go.Ground.data }, { on := 22, ground := Go.Ground.data }], guard := none }) (v := .bool false) rfl (by kernel_rfl) (by kernel_rfl) (by kernel_rfl) (fun _ _ _ h => h) (Or.inl ⟨by rfl, fun w hS => by go_simp⟩) hH ?_
                simp only [Act.put, List.setIfInBounds_toArray, List.set_cons_zero, List.set_cons_succ]
                clear hH
                refine wpAnyH_done (by kernel_rfl) ?_ _
                have HP9 : q.note k o.dest o.e o.s o.m o.u = q := by unfold PS.note; rw [if_neg (by rw [hB]; simp)]
                rw [HP9] at K11
                clear HP9 hB K7 K10 htau
                go_wp2_with fail
                exact ⟨⟨i + 1, q, T, E1, E2, E3, m, by have := HIL.out; omega, by have := HIL.out; omega, by go_num, ⟨K11.out.1⟩, M1, HL1⟩, by have := HIL.out; simp [intOf]; omega⟩
              | true =>
                refine wp_region_held_drew (S := fun w' => Blk w' O o.obj) (by kernel_rfl) (K7.out.2.draw) (fun hH => ?_)
                refine wpAnyH_take (i := 0) (oi := { dst := some 66, op := Go.Op.move (Go.Operand.tmp 12), type := 3, pos := "law.go:93", after := #[], guard := none }) (v := .int .i64 i) rfl (by kernel_rfl) (by kernel_rfl) (by kernel_rfl) (fun _ _ _ h => h) (Or.inl ⟨by rfl, fun w hS => by obtain ⟨c0, c1, c2, c3, c4, c5, c6⟩ := ocells_at hS; go_simp⟩) hH ?_
                simp only [Act.put, List.setIfInBounds_toArray, List.set_cons_zero, List.set_cons_succ]
                refine wpAnyH_take (i := 1) (oi := { dst := some 67, op := Go.Op.binOp Go.BinOp.lss 3 (Go.Operand.tmp 66) (Go.Operand.const (Go.Value.int Go.IntKind.i64 40)) 3, type := 4, pos := "law.go:93", after := #[{ on := 0, ground := Go.Ground.data }], guard := none }) (v := .bool true) rfl (by kernel_rfl) (by kernel_rfl) (by kernel_rfl) (fun _ _ _ h => h) (Or.inl ⟨by rfl, fun w hS => by obtain ⟨c0, c1, c2, c3, c4, c5, c6⟩ := ocells_at hS; go_simp⟩) hH ?_
                simp only [Act.put, List.setIfInBounds_toArray, List.set_cons_zero, List.set_cons_succ]
                refine wpAnyH_take (i := 2) (oi := { dst := some 68, op := Go.Op.move (Go.Operand.tmp 67), type := 4, pos := "law.go:93", after := #[{ on := 1, ground := Go.Ground.data }], guard := none }) (v := .bool true) rfl (by kernel_rfl) (by kernel_rfl) (by kernel_rfl) (fun _ _ _ h => h) (Or.inl ⟨by rfl, fun w hS => by obtain ⟨c0, c1, c2, c3, c4, c5, c6⟩ := ocells_at hS; go_simp⟩) hH ?_
                simp only [Act.put, List.setIfInBounds_toArray, List.set_cons_zero, List.set_cons_succ]
                refine wpAnyH_take (i := 3) (oi := { dst := some 69, op := Go.Op.fieldAddr 42 (Go.Operand.tmp 13) 1, type := 0, pos := "law.go:93", after := #[{ on := 2, ground := Go.Ground.guard }], guard := some (2, true) }) (v := .pointer (some ⟨O, 1, none⟩)) rfl (by kernel_rfl) (by kernel_rfl) (by kernel_rfl) (fun _ _ _ h => h) (Or.inl ⟨by rfl, fun w hS => by obtain ⟨c0, c1, c2, c3, c4, c5, c6⟩ := ocells_at hS; go_simp⟩) hH ?_
                simp only [Act.put, List.setIfInBounds_toArray, List.set_cons_zero, List.set_cons_succ]
                refine wpAnyH_take (i := 4) (oi := { dst := some 70, op := Go.Op.load 2 (Go.Operand.tmp 69), type := 2, pos := "law.go:93", after := #[{ on := 3, ground := Go.Ground.data }, { on := 2, ground := Go.Ground.guard }], guard := some (2, true) }) (v := .int .i64 o.now) rfl (by kernel_rfl) (by kernel_rfl) (by kernel_rfl) (fun _ _ _ h => h) (Or.inl ⟨by rfl, fun w hS => by obtain ⟨c0, c1, c2, c3, c4, c5, c6⟩ := ocells_at hS; go_simp⟩) hH ?_
                simp only [Act.put, List.setIfInBounds_toArray, List.set_cons_zero, List.set_cons_succ]
                refine wpAnyH_take (i := 5) (oi := { dst := some 71, op := Go.Op.convert 2 62 (Go.Operand.tmp 70), type := 62, pos := "law.go:93", after := #[{ on := 4, ground := Go.Ground.data }, { on := 2, ground := Go.Ground.guard }], guard := some (2, true) }) (v := .int .u64 (IntKind.u64.wrap o.now)) rfl (by kernel_rfl) (by kernel_rfl) (by kernel_rfl) (fun _ _ _ h => h) (Or.inl ⟨by rfl, fun w hS => by obtain ⟨c0, c1, c2, c3, c4, c5, c6⟩ := ocells_at hS; go_simp⟩) hH ?_
                simp only [Act.put, List.setIfInBounds_toArray, List.set_cons_zero, List.set_cons_succ]
                refine wpAnyH_take (i := 6) (oi := { dst := some 72, op := Go.Op.binOp Go.BinOp.rem 62 (Go.Operand.tmp 71) (Go.Operand.const (Go.Value.int Go.IntKind.u64 60)) 62, type := 62, pos := "law.go:93", after := #[{ on := 5, ground := Go.Ground.data }, { on := 2, ground := Go.Ground.guard }], guard := some (2, true) }) (v := .int .u64 ((IntKind.u64.wrap o.now).tmod 60)) rfl (by kernel_rfl) (by kernel_rfl) (by kernel_rfl) (fun _ _ _ h => h) (Or.inl ⟨by rfl, fun w hS => by obtain ⟨c0, c1, c2, c3, c4, c5, c6⟩ := ocells_at hS; go_simp⟩) hH ?_
                simp only [Act.put, List.setIfInBounds_toArray, List.set_cons_zero, List.set_cons_succ]
                refine wpAnyH_take (i := 7) (oi := { dst := some 73, op := Go.Op.convert 62 2 (Go.Operand.tmp 72), type := 2, pos := "law.go:93", after := #[{ on := 6, ground := Go.Ground.data }, { on := 2, ground := Go.Ground.guard }], guard := some (2, true) }) (v := .int .i64 k) rfl (by kernel_rfl) (by kernel_rfl) (by kernel_rfl) (fun _ _ _ h => h) (Or.inl ⟨by rfl, fun w hS => by obtain ⟨c0, c1, c2, c3, c4, c5, c6⟩ := ocells_at hS; go_simp⟩) hH ?_
                simp only [Act.put, List.setIfInBounds_toArray, List.set_cons_zero, List.set_cons_succ]
                refine wpAnyH_take (i := 8) (oi := { dst := some 74, op := Go.Op.move (Go.Operand.tmp 11), type := 2, pos := "law.go:93", after := #[{ on := 2, ground := Go.Ground.guard }], guard := some (2, true) }) (v := .int .i64 k) rfl (by kernel_rfl) (by kernel_rfl) (by kernel_rfl) (fun _ _ _ h => h) (Or.inl ⟨by rfl, fun w hS => by obtain ⟨c0, c1, c2, c3, c4, c5, c6⟩ := ocells_at hS; go_simp⟩) hH ?_
                simp only [Act.put, List.setIfInBounds_toArray, List.set_cons_zero, List.set_cons_succ]
                refine wpAnyH_take (i := 9) (oi := { dst := some 75, op := Go.Op.binOp Go.BinOp.eql 2 (Go.Operand.tmp 73) (Go.Operand.tmp 74) 2, type := 4, pos := "law.go:93", after := #[{ on := 7, ground := Go.Ground.data }, { on := 8, ground := Go.Ground.data }, { on := 2, ground := Go.Ground.guard }], guard := some (2, true) }) (v := .bool true) rfl (by kernel_rfl) (by kernel_rfl) (by kernel_rfl) (fun _ _ _ h => h) (Or.inl ⟨by rfl, fun w hS => by obtain ⟨c0, c1, c2, c3, c4, c5, c6⟩ := ocells_at hS; go_simp⟩) hH ?_
                simp only [Act.put, List.setIfInBounds_toArray, List.set_cons_zero, List.set_cons_succ]
                refine wpAnyH_take (i := 10) (oi := { dst := some 76, op := Go.Op.pick (Go.Operand.tmp 68) (Go.Operand.tmp 75) (Go.Operand.const (Go.Value.bool false)), type := 4, pos := "law.go:93", after := #[{ on := 2, ground := Go.Ground.data }, { on := 9, ground := Go.Ground.data }], guard := none }) (v := .bool true) rfl (by kernel_rfl) (by kernel_rfl) (by kernel_rfl) (fun _ _ _ h => h) (Or.inl ⟨by rfl, fun w hS => by obtain ⟨c0, c1, c2, c3, c4, c5, c6⟩ := ocells_at hS; go_simp⟩) hH ?_
                simp only [Act.put, List.setIfInBounds_toArray, List.set_cons_zero, List.set_cons_succ]
                refine wpAnyH_take (i := 11) (oi := { dst := some 77, op := Go.Op.move (Go.Operand.tmp 76), type := 4, pos := "law.go:93", after := #[{ on := 10, ground := Go.Ground.data }, { on := 2, ground := Go.Ground.chain }], guard := none }) (v := .bool true) rfl (by kernel_rfl) (by kernel_rfl) (by kernel_rfl) (fun _ _ _ h => h) (Or.inl ⟨by rfl, fun w hS => by obtain ⟨c0, c1, c2, c3, c4, c5, c6⟩ := ocells_at hS; go_simp⟩) hH ?_
                simp only [Act.put, List.setIfInBounds_toArray, List.set_cons_zero, List.set_cons_succ]
                refine wpAnyH_take (i := 12) (oi := { dst := some 78, op := Go.Op.move (Go.Operand.tmp 5), type := 26, pos := "law.go:93", after := #[{ on := 11, ground := Go.Ground.guard }], guard := some (11, true) }) (v := .pointer (some ⟨t, 0, none⟩)) rfl (by kernel_rfl) (by kernel_rfl) (by kernel_rfl) (fun _ _ _ h => h) (Or.inl ⟨by rfl, fun w hS => by obtain ⟨c0, c1, c2, c3, c4, c5, c6⟩ := ocells_at hS; go_simp⟩) hH ?_
                simp only [Act.put, List.setIfInBounds_toArray, List.set_cons_zero, List.set_cons_succ]
                refine wpAnyH_take (i := 13) (oi := { dst := some 79, op := Go.Op.move (Go.Operand.tmp 11), type := 2, pos := "law.go:93", after := #[{ on := 11, ground := Go.Ground.guard }], guard := some (11, true) }) (v := .int .i64 k) rfl (by kernel_rfl) (by kernel_rfl) (by kernel_rfl) (fun _ _ _ h => h) (Or.inl ⟨by rfl, fun w hS => by obtain ⟨c0, c1, c2, c3, c4, c5, c6⟩ := ocells_at hS; go_simp⟩) hH ?_
                simp only [Act.put, List.setIfInBounds_toArray, List.set_cons_zero, List.set_cons_succ]
                refine wpAnyH_take (i := 14) (oi := { dst := some 80, op := Go.Op.fieldAddr 42 (Go.Operand.tmp 13) 2, type := 0, pos := "law.go:93", after := #[{ on := 11, ground := Go.Ground.guard }], guard := some (11, true) }) (v := .pointer (some ⟨O, 2, none⟩)) rfl (by kernel_rfl) (by kernel_rfl) (by kernel_rfl) (fun _ _ _ h => h) (Or.inl ⟨by rfl, fun w hS => by obtain ⟨c0, c1, c2, c3, c4, c5, c6⟩ := ocells_at hS; go_simp⟩) hH ?_
                simp only [Act.put, List.setIfInBounds_toArray, List.set_cons_zero, List.set_cons_succ]
                refine wpAnyH_take (i := 15) (oi := { dst := some 81, op := Go.Op.load 3 (Go.Operand.tmp 80), type := 3, pos := "law.go:93", after := #[{ on := 14, ground := Go.Ground.data }, { on := 11, ground := Go.Ground.guard }], guard := some (11, true) }) (v := .int .i64 o.dest) rfl (by kernel_rfl) (by kernel_rfl) (by kernel_rfl) (fun _ _ _ h => h) (Or.inl ⟨by rfl, fun w hS => by obtain ⟨c0, c1, c2, c3, c4, c5, c6⟩ := ocells_at hS; go_simp⟩) hH ?_
                simp only [Act.put, List.setIfInBounds_toArray, List.set_cons_zero, List.set_cons_succ]
                refine wpAnyH_take (i := 16) (oi := { dst := some 82, op := Go.Op.fieldAddr 42 (Go.Operand.tmp 13) 3, type := 0, pos := "law.go:93", after := #[{ on := 11, ground := Go.Ground.guard }], guard := some (11, true) }) (v := .pointer (some ⟨O, 3, none⟩)) rfl (by kernel_rfl) (by kernel_rfl) (by kernel_rfl) (fun _ _ _ h => h) (Or.inl ⟨by rfl, fun w hS => by obtain ⟨c0, c1, c2, c3, c4, c5, c6⟩ := ocells_at hS; go_simp⟩) hH ?_
                simp only [Act.put, List.setIfInBounds_toArray, List.set_cons_zero, List.set_cons_succ]
                refine wpAnyH_take (i := 17) (oi := { dst := some 83, op := Go.Op.load 35 (Go.Operand.tmp 82), type := 35, pos := "law.go:93", after := #[{ on := 16, ground := Go.Ground.data }, { on := 11, ground := Go.Ground.guard }], guard := some (11, true) }) (v := keyV o.e o.s o.m) rfl (by kernel_rfl) (by kernel_rfl) (by kernel_rfl) (fun _ _ _ h => h) (Or.inl ⟨by rfl, fun w hS => by obtain ⟨c0, c1, c2, c3, c4, c5, c6⟩ := ocells_at hS; go_simp⟩) hH ?_
                simp only [Act.put, List.setIfInBounds_toArray, List.set_cons_zero, List.set_cons_succ]
                refine wpAnyH_take (i := 19) (oi := { dst := some 85, op := Go.Op.fieldAddr 42 (Go.Operand.tmp 13) 4, type := 0, pos := "law.go:93", after := #[{ on := 11, ground := Go.Ground.guard }], guard := some (11, true) }) (v := .pointer (some ⟨O, 6, none⟩)) rfl (by kernel_rfl) (by kernel_rfl) (by kernel_rfl) (fun _ _ _ h => h) (Or.inl ⟨by rfl, fun w hS => by obtain ⟨c0, c1, c2, c3, c4, c5, c6⟩ := ocells_at hS; go_simp⟩) hH ?_
                simp only [Act.put, List.setIfInBounds_toArray, List.set_cons_zero, List.set_cons_succ]
                refine wpAnyH_take (i := 20) (oi := { dst := some 86, op := Go.Op.load 4 (Go.Operand.tmp 85), type := 4, pos := "law.go:93", after := #[{ on := 19, ground := Go.Ground.data }, { on := 11, ground := Go.Ground.guard }], guard := some (11, true) }) (v := .bool o.u) rfl (by kernel_rfl) (by kernel_rfl) (by kernel_rfl) (fun _ _ _ h => h) (Or.inl ⟨by rfl, fun w hS => by obtain ⟨c0, c1, c2, c3, c4, c5, c6⟩ := ocells_at hS; go_simp⟩) hH ?_
                simp only [Act.put, List.setIfInBounds_toArray, List.set_cons_zero, List.set_cons_succ]
                refine wpAnyH_ready (rs := [18]) (by kernel_rfl) (by simp) ?_
                refine AllReadyH.cons (o := { dst := some 84, op := Go.Op.call { callee := Go.Callee.value (Go.Operand.func 13), args := #[Go.Operand.tmp 83], argTypes := #[35] }, type := 46, pos := "law.go:93", after := #[{ on := 17, ground := Go.Ground.data }, { on := 11, ground := Go.Ground.chain }, { on := 11, ground := Go.Ground.guard }], guard := some (11, true) }) rfl (fun K hK => ?_) AllReadyH.nil
                go_simp
                refine (kto_any o.e o.s o.m _).mono ?_
                rintro r w10 ⟨rfl, hb⟩
                have K10 : Kp (SW W0 t b b2 b3 m P Q q E1 E2 E3 w10 ∧ Blk w10 O o.obj) := ⟨K7.out.1.drew.keep hb, K7.out.2.draw.keep hb⟩
                clear hb
                refine hK.out _ _ (K10.out.2) (fun hHn => ?_)
                clear hK K hH
                have hH := hHn
                clear hHn
                try simp only [Act.put, List.setIfInBounds_toArray, List.set_cons_zero, List.set_cons_succ]
                refine wpAnyH_ready (rs := [21]) (by kernel_rfl) (by simp) ?_
                refine AllReadyH.cons (o := { dst := some 87, op := Go.Op.call { callee := Go.Callee.value (Go.Operand.func 12), args := #[Go.Operand.tmp 78, Go.Operand.tmp 79, Go.Operand.tmp 81, Go.Operand.tmp 84, Go.Operand.tmp 86], argTypes := #[26, 2, 3, 46, 4] }, type := 27, pos := "law.go:93", after := #[{ on := 12, ground := Go.Ground.data }, { on := 13, ground := Go.Ground.data }, { on := 15, ground := Go.Ground.data }, { on := 18, ground := Go.Ground.data }, { on := 20, ground := Go.Ground.data }, { on := 18, ground := Go.Ground.chain }, { on := 11, ground := Go.Ground.guard }], guard := some (11, true) }) rfl (fun K hK => ?_) AllReadyH.nil
                go_simp
                refine (note_any q k o.dest o.e o.s o.m o.u t _ K10.out.1.own.blk).mono ?_
                rintro r w11 ⟨rfl, hT⟩
                rw [if_pos hB]
                have HR := note_rest q k o.dest o.e o.s o.m o.u
                have K11 : Kp (SW W0 t b b2 b3 m P Q (q.note k o.dest o.e o.s o.m o.u) E1 E2 E3 w11 ∧ Blk w11 O o.obj) := ⟨K10.out.1.turn hT (K10.out.1.own.ok.note _ _ _ _ _ _) HR.2.2.1 HR.2.2.2, Blk_turn K10.out.2 K10.out.1.own.blk hT (by decide)⟩
                clear hT HR
                refine hK.out _ _ (K11.out.2) (fun hHn => ?_)
                clear hK K hH
                have hH := hHn
                clear hHn
                try simp only [Act.put, List.setIfInBounds_toArray, List.set_cons_zero, List.set_cons_succ]
                refine wpAnyH_take (i := 22) (oi := { dst := some 88, op := Go.Op.binOp Go.BinOp.eql 27 (Go.Operand.tmp 87) (Go.Operand.const (Go.Value.int Go.IntKind.i64 0)) 27, type := 4, pos := "law.go:93", after := #[{ on := 21, ground := Go.Ground.data }, { on := 11, ground := Go.Ground.guard }], guard := some (11, true) }) (v := .bool true) rfl (by kernel_rfl) (by kernel_rfl) (by kernel_rfl) (fun _ _ _ h => h) (Or.inl ⟨by rfl, fun w hS => by go_simp⟩) hH ?_
                simp only [Act.put, List.setIfInBounds_toArray, List.set_cons_zero, List.set_cons_succ]
                refine wpAnyH_take (i := 23) (oi := { dst := some 89, op := Go.Op.pick (Go.Operand.tmp 77) (Go.Operand.tmp 88) (Go.Operand.const (Go.Value.bool false)), type := 4, pos := "law.go:93", after := #[{ on := 11, ground := Go.Ground.data }, { on := 22, ground := Go.Ground.data }], guard := none }) (v := .bool true) rfl (by kernel_rfl) (by kernel_rfl) (by kernel_rfl) (fun _ _ _ h => h) (Or.inl ⟨by rfl, fun w hS => by go_simp⟩) hH ?_
                simp only [Act.put, List.setIfInBounds_toArray, List.set_cons_zero, List.set_cons_succ]
                clear hH
                refine wpAnyH_done (by kernel_rfl) ?_ _
                have HD := Kp.mk (noteB_in hB)
                have M2 := Kp.mk (M1.out.note (u := o.u) hB (Int.natCast_nonneg k))
                have HL2 : Kp (lastM (q.note k o.dest o.e o.s o.m o.u) = L0) := ⟨by rw [note_last]; exact HL1.out⟩
                have MM1 := Kp.mk M1.out.m1
                have MM3 := Kp.mk M1.out.m3
                have HNW : Kp (nwM q o.dest o.e o.s = (!ntM q o.dest || nwB o.e o.s (if ntM q o.dest = true then kyM q o.dest else (0, 0, 0)).1 (if ntM q o.dest = true then kyM q o.dest else (0, 0, 0)).2.1)) := ⟨rfl⟩
                have HK1 : Kp (∀ D, d1M q k o.dest D = if wtM q o.dest = true then D else D.put (kx o.dest) (.lit (.int .i64 k))) := ⟨fun _ => rfl⟩
                have HK2 : Kp (∀ D, d2M q k o.dest o.e o.s D = if nwM q o.dest o.e o.s = true then D.put (kx o.dest) (.lit (.int .i64 k)) else D) := ⟨fun _ => rfl⟩
                have HWF : Kp ((Lit.int .i64 (k : Int)).wf = true) := ⟨wf2m (by have := HK.out; omega)⟩
                clear hB K7 K10 htau M1 HL1
                obtain ⟨q', hq'⟩ : ∃ x, x = q.note k o.dest o.e o.s o.m o.u := ⟨_, rfl⟩
                rw [← hq'] at K11 M2 HL2
                clear hq'
                obtain ⟨F1, hF1⟩ : ∃ x, x = d1M q k o.dest E1 := ⟨_, rfl⟩
                obtain ⟨F2, hF2⟩ : ∃ x, x = d2M q k o.dest o.e o.s E2 := ⟨_, rfl⟩
                rw [← hF1, ← hF2] at M2
                have HF1 : Kp (F1 = if wtM q o.dest = true then E1 else E1.put (kx o.dest) (.lit (.int .i64 k))) := ⟨hF1⟩
                have HF2 : Kp (F2 = if nwM q o.dest o.e o.s = true then E2.put (kx o.dest) (.lit (.int .i64 k)) else E2) := ⟨hF2⟩
                clear hF1 hF2 HK1 HK2
                have HM : Kp (m + 3 < 9223372036854775807) := ⟨by have := HIL.out; have := HK.out; omega⟩
                obtain ⟨c0, c1, c2, c3, c4, c5, c6⟩ := ocells_at K11.out.2
                go_upto_if 98 with (at_lookup; refine wpList_lookup_ms _ rfl _ _ rfl b m E1 _ _ rfl K11.out.1.o1 MM1.out o.dest rfl HD.out ?_; intro c9)
                go_cut [15] (fun _ wx => ∃ m', m' ≤ m + 1 ∧ Kp (SW W0 t b b2 b3 m' P Q q' F1 E2 E3 wx) ∧ Kp (Blk wx O o.obj))
                case first =>
                  cases hw : wtM q o.dest with
                  | true =>
                    have KF : Kp (SW W0 t b b2 b3 m P Q q' F1 E2 E3 w11) := ⟨by rw [HF1.out, if_pos hw]; exact K11.out.1⟩
                    have KO := Kp.mk K11.out.2
                    clear hw
                    go_wp2_with fail
                    go_meet
                    case rel => exact ⟨m, by omega, KF, KO⟩
                  | false =>
                    go_wp2_with (at_mapUpdate; refine wpList_mapUpdate_own _ rfl _ _ _ 60 rfl 3 2 law3m Try.underlying60 _ b m E1 rfl K11.out.1.o1 (by have := HM.out; unfold maxLen; omega) _ _ _ rfl rfl (key3m HD.out) _ [] (plainElem_int Try.underlying2 HWF.out) ?_; intro w12 hown hgrow; (have KF : Kp (SW W0 t b b2 b3 (m + 1) P Q q' F1 E2 E3 w12) := ⟨by rw [HF1.out, if_neg (by rw [hw]; simp)]; exact K11.out.1.map1 hgrow (by omega) hown⟩); (have KO := Kp.mk (K11.out.2.mapped K11.out.1.o1 hgrow)); clear hown hgrow)
                    go_meet
                    case rel => exact ⟨m + 1, by omega, KF, KO⟩
                case rest =>
                  obtain ⟨m1, hm1, K12, O12⟩ := hcut
                  have HM1 := Kp.mk hm1
                  clear K11 c0 c1 c2 c3 c4 c5 c6 hm1 HF1 MM1
                  obtain ⟨c0, c1, c2, c3, c4, c5, c6⟩ := ocells_at O12.out
                  go_upto_region 18 with (at_lookup; refine wpList_lookup_key _ rfl _ _ rfl b3 m1 E3 _ _ rfl K12.out.o3 MM3.out o.dest rfl HD.out ?_; intro e9 s9 m9 he9; (have HE9 := Kp.mk he9); clear he9)
                  obtain ⟨w13, hw13⟩ : ∃ x, x = wc.alloc (Obj.cells #[.int .u32 e9, .int .u32 s9, .int .i64 m9] 35) := ⟨_, rfl⟩
                  obtain ⟨KB, hKB⟩ : ∃ x, x = wc.heap.size := ⟨_, rfl⟩
                  have K13 : Kp (SW W0 t b b2 b3 m1 P Q q' F1 E2 E3 w13 ∧ Blk w13 O o.obj ∧ Blk w13 KB (.cells #[.int .u32 e9, .int .u32 s9, .int .i64 m9] 35)) := ⟨by rw [hw13]; exact ⟨K12.out.keep (more (Below.refl _ _) _), O12.out.old _, Blk.newAt _ hKB⟩⟩
                  rw [← hw13, ← hKB]
                  clear hw13 hKB K12 O12 c0 c1 c2 c3 c4 c5 c6
                  obtain ⟨c0, c1, c2, c3, c4, c5, c6⟩ := ocells_at K13.out.2.1
                  obtain ⟨g0, g1, g2, -⟩ := K13.out.2.2.three
                  have HNW2 : Kp (nwM q o.dest o.e o.s = (!ntM q o.dest || nwB o.e o.s e9 s9)) := ⟨by rw [HNW.out, HE9.out]⟩
                  clear HNW HE9 MM3
                  go_cut [17, 117] (fun _ v wx => v = .bool (nwM q o.dest o.e o.s) ∧ Kp (SW W0 t b b2 b3 m1 P Q q' F1 E2 E3 wx ∧ Blk wx O o.obj))
                  case first =>
                    cases hnt : ntM q o.dest with
                    | false =>
                      have HV : Kp (nwM q o.dest o.e o.s = true) := ⟨by rw [HNW2.out, hnt]; rfl⟩
                      have KF := Kp.mk (And.intro K13.out.1 K13.out.2.1)
                      clear hnt HNW2
                      go_wp2_with fail
                      go_meet
                      case rel => exact ⟨by rw [HV.out], KF⟩
                    | true =>
                      have HV : Kp (nwM q o.dest o.e o.s = nwB o.e o.s e9 s9) := ⟨by rw [HNW2.out, hnt]; rfl⟩
                      clear hnt HNW2
                      go_wp2_with fail
                      refine (rnewer_any o.e o.s o.m e9 s9 m9 _).mono ?_
                      rintro r w14 ⟨rfl, hb⟩
                      have KF : Kp (SW W0 t b b2 b3 m1 P Q q' F1 E2 E3 w14 ∧ Blk w14 O o.obj) := ⟨K13.out.1.keep hb, K13.out.2.1.keep hb⟩
                      clear hb K13 c0 c1 c2 c3 c4 c5 c6 g0 g1 g2
                      go_wp2_with fail
                      go_meet
                      case rel => exact ⟨by rw [HV.out], KF⟩
                  case rest =>
                    obtain ⟨rfl, K14⟩ := hcut
                    clear K13 c0 c1 c2 c3 c4 c5 c6 g0 g1 g2 HNW2
                    obtain ⟨c0, c1, c2, c3, c4, c5, c6⟩ := ocells_at K14.out.2
                    go_upto_if 117 with fail
                    go_cut [] (fun wx => ∃ m', m' ≤ m1 + 1 ∧ Kp (SW W0 t b b2 b3 m' P Q q' F1 F2 E3 wx) ∧ Kp (Blk wx O o.obj))
                    case first =>
                      cases hnw : nwM q o.dest o.e o.s with
                      | true =>
                        go_wp2_with (at_mapUpdate; refine wpList_mapUpdate_own _ rfl _ _ _ 60 rfl 3 2 law3m Try.underlying60 _ b2 m1 E2 rfl K14.out.1.o2 (by have := HM.out; have := HM1.out; unfold maxLen; omega) _ _ _ rfl rfl (key3m HD.out) _ [] (plainElem_int Try.underlying2 HWF.out) ?_; intro w15 hown hgrow; (have KF : Kp (SW W0 t b b2 b3 (m1 + 1) P Q q' F1 F2 E3 w15) := ⟨by rw [HF2.out, if_pos hnw]; exact K14.out.1.map2 hgrow (by omega) hown⟩); (have KO := Kp.mk (K14.out.2.mapped K14.out.1.o2 hgrow)); clear hown hgrow)
                        go_meet
                        case rel => exact ⟨m1 + 1, by omega, KF, KO⟩
                      | false =>
                        have KF : Kp (SW W0 t b b2 b3 m1 P Q q' F1 F2 E3 wc) := ⟨by rw [HF2.out, if_neg (by rw [hnw]; simp)]; exact K14.out.1⟩
                        have KO := Kp.mk K14.out.2
                        clear hnw
                        go_wp2_with fail
                        go_meet
                        case rel => exact ⟨m1, by omega, KF, KO⟩
                    case rest =>
                      obtain ⟨m2, hm2, K15, O15⟩ := hcut
                      have HM2 := Kp.mk hm2
                      clear K14 c0 c1 c2 c3 c4 c5 c6 hm2 HF2
                      obtain ⟨c0, c1, c2, c3, c4, c5, c6⟩ := ocells_at O15.out
                      go_wp2_with (at_mapUpdate; refine wpList_mapUpdate_own _ rfl _ _ _ 61 rfl 3 35 law3m Try.underlying61 keyElem b3 m2 E3 rfl K15.out.o3 (by have := HM.out; have := HM1.out; have := HM2.out; unfold maxLen; omega) _ _ _ rfl rfl (key3m HD.out) _ [] (keyElem_mk (o.e, o.s, o.m)) ?_; intro w16 hown hgrow; (have KF := Kp.mk (K15.out.map3 (n' := m2 + 1) hgrow (by omega) hown)); clear hown hgrow)
                      exact ⟨⟨i + 1, q', _, _, _, _, m2 + 1, by have := HIL.out; omega, by have := HIL.out; have := HM1.out; have := HM2.out; have := H40.out; omega, by go_num, KF, M2, HL2⟩, by have := HIL.out; simp [intOf]; omega⟩
            · have hx' : (tau == (k : Int)) = false := by simpa using hx
              have HS7 := Kp.mk K7.out.1.drew
              refine wp_region_held_drew (S := fun w' => Blk w' O o.obj) (by kernel_rfl) (K7.out.2.draw) (fun hH => ?_)
              refine wpAnyH_take (i := 0) (oi := { dst := some 66, op := Go.Op.move (Go.Operand.tmp 12), type := 3, pos := "law.go:93", after := #[], guard := none }) (v := .int .i64 i) rfl (by kernel_rfl) (by kernel_rfl) (by kernel_rfl) (fun _ _ _ h => h) (Or.inl ⟨by rfl, fun w hS => by obtain ⟨c0, c1, c2, c3, c4, c5, c6⟩ := ocells_at hS; go_simp⟩) hH ?_
              simp only [Act.put, List.setIfInBounds_toArray, List.set_cons_zero, List.set_cons_succ]
              refine wpAnyH_take (i := 1) (oi := { dst := some 67, op := Go.Op.binOp Go.BinOp.lss 3 (Go.Operand.tmp 66) (Go.Operand.const (Go.Value.int Go.IntKind.i64 40)) 3, type := 4, pos := "law.go:93", after := #[{ on := 0, ground := Go.Ground.data }], guard := none }) (v := .bool true) rfl (by kernel_rfl) (by kernel_rfl) (by kernel_rfl) (fun _ _ _ h => h) (Or.inl ⟨by rfl, fun w hS => by obtain ⟨c0, c1, c2, c3, c4, c5, c6⟩ := ocells_at hS; go_simp⟩) hH ?_
              simp only [Act.put, List.setIfInBounds_toArray, List.set_cons_zero, List.set_cons_succ]
              refine wpAnyH_take (i := 2) (oi := { dst := some 68, op := Go.Op.move (Go.Operand.tmp 67), type := 4, pos := "law.go:93", after := #[{ on := 1, ground := Go.Ground.data }], guard := none }) (v := .bool true) rfl (by kernel_rfl) (by kernel_rfl) (by kernel_rfl) (fun _ _ _ h => h) (Or.inl ⟨by rfl, fun w hS => by obtain ⟨c0, c1, c2, c3, c4, c5, c6⟩ := ocells_at hS; go_simp⟩) hH ?_
              simp only [Act.put, List.setIfInBounds_toArray, List.set_cons_zero, List.set_cons_succ]
              refine wpAnyH_take (i := 3) (oi := { dst := some 69, op := Go.Op.fieldAddr 42 (Go.Operand.tmp 13) 1, type := 0, pos := "law.go:93", after := #[{ on := 2, ground := Go.Ground.guard }], guard := some (2, true) }) (v := .pointer (some ⟨O, 1, none⟩)) rfl (by kernel_rfl) (by kernel_rfl) (by kernel_rfl) (fun _ _ _ h => h) (Or.inl ⟨by rfl, fun w hS => by obtain ⟨c0, c1, c2, c3, c4, c5, c6⟩ := ocells_at hS; go_simp⟩) hH ?_
              simp only [Act.put, List.setIfInBounds_toArray, List.set_cons_zero, List.set_cons_succ]
              refine wpAnyH_take (i := 4) (oi := { dst := some 70, op := Go.Op.load 2 (Go.Operand.tmp 69), type := 2, pos := "law.go:93", after := #[{ on := 3, ground := Go.Ground.data }, { on := 2, ground := Go.Ground.guard }], guard := some (2, true) }) (v := .int .i64 o.now) rfl (by kernel_rfl) (by kernel_rfl) (by kernel_rfl) (fun _ _ _ h => h) (Or.inl ⟨by rfl, fun w hS => by obtain ⟨c0, c1, c2, c3, c4, c5, c6⟩ := ocells_at hS; go_simp⟩) hH ?_
              simp only [Act.put, List.setIfInBounds_toArray, List.set_cons_zero, List.set_cons_succ]
              refine wpAnyH_take (i := 5) (oi := { dst := some 71, op := Go.Op.convert 2 62 (Go.Operand.tmp 70), type := 62, pos := "law.go:93", after := #[{ on := 4, ground := Go.Ground.data }, { on := 2, ground := Go.Ground.guard }], guard := some (2, true) }) (v := .int .u64 (IntKind.u64.wrap o.now)) rfl (by kernel_rfl) (by kernel_rfl) (by kernel_rfl) (fun _ _ _ h => h) (Or.inl ⟨by rfl, fun w hS => by obtain ⟨c0, c1, c2, c3, c4, c5, c6⟩ := ocells_at hS; go_simp⟩) hH ?_
              simp only [Act.put, List.setIfInBounds_toArray, List.set_cons_zero, List.set_cons_succ]
              refine wpAnyH_take (i := 6) (oi := { dst := some 72, op := Go.Op.binOp Go.BinOp.rem 62 (Go.Operand.tmp 71) (Go.Operand.const (Go.Value.int Go.IntKind.u64 60)) 62, type := 62, pos := "law.go:93", after := #[{ on := 5, ground := Go.Ground.data }, { on := 2, ground := Go.Ground.guard }], guard := some (2, true) }) (v := .int .u64 ((IntKind.u64.wrap o.now).tmod 60)) rfl (by kernel_rfl) (by kernel_rfl) (by kernel_rfl) (fun _ _ _ h => h) (Or.inl ⟨by rfl, fun w hS => by obtain ⟨c0, c1, c2, c3, c4, c5, c6⟩ := ocells_at hS; go_simp⟩) hH ?_
              simp only [Act.put, List.setIfInBounds_toArray, List.set_cons_zero, List.set_cons_succ]
              refine wpAnyH_take (i := 7) (oi := { dst := some 73, op := Go.Op.convert 62 2 (Go.Operand.tmp 72), type := 2, pos := "law.go:93", after := #[{ on := 6, ground := Go.Ground.data }, { on := 2, ground := Go.Ground.guard }], guard := some (2, true) }) (v := .int .i64 tau) rfl (by kernel_rfl) (by kernel_rfl) (by kernel_rfl) (fun _ _ _ h => h) (Or.inl ⟨by rfl, fun w hS => by obtain ⟨c0, c1, c2, c3, c4, c5, c6⟩ := ocells_at hS; go_simp⟩) hH ?_
              simp only [Act.put, List.setIfInBounds_toArray, List.set_cons_zero, List.set_cons_succ]
              refine wpAnyH_take (i := 8) (oi := { dst := some 74, op := Go.Op.move (Go.Operand.tmp 11), type := 2, pos := "law.go:93", after := #[{ on := 2, ground := Go.Ground.guard }], guard := some (2, true) }) (v := .int .i64 k) rfl (by kernel_rfl) (by kernel_rfl) (by kernel_rfl) (fun _ _ _ h => h) (Or.inl ⟨by rfl, fun w hS => by obtain ⟨c0, c1, c2, c3, c4, c5, c6⟩ := ocells_at hS; go_simp⟩) hH ?_
              simp only [Act.put, List.setIfInBounds_toArray, List.set_cons_zero, List.set_cons_succ]
              refine wpAnyH_take (i := 9) (oi := { dst := some 75, op := Go.Op.binOp Go.BinOp.eql 2 (Go.Operand.tmp 73) (Go.Operand.tmp 74) 2, type := 4, pos := "law.go:93", after := #[{ on := 7, ground := Go.Ground.data }, { on := 8, ground := Go.Ground.data }, { on := 2, ground := Go.Ground.guard }], guard := some (2, true) }) (v := .bool false) rfl (by kernel_rfl) (by kernel_rfl) (by kernel_rfl) (fun _ _ _ h => h) (Or.inl ⟨by rfl, fun w hS => by obtain ⟨c0, c1, c2, c3, c4, c5, c6⟩ := ocells_at hS; go_simp⟩) hH ?_
              simp only [Act.put, List.setIfInBounds_toArray, List.set_cons_zero, List.set_cons_succ]
              refine wpAnyH_take (i := 10) (oi := { dst := some 76, op := Go.Op.pick (Go.Operand.tmp 68) (Go.Operand.tmp 75) (Go.Operand.const (Go.Value.bool false)), type := 4, pos := "law.go:93", after := #[{ on := 2, ground := Go.Ground.data }, { on := 9, ground := Go.Ground.data }], guard := none }) (v := .bool false) rfl (by kernel_rfl) (by kernel_rfl) (by kernel_rfl) (fun _ _ _ h => h) (Or.inl ⟨by rfl, fun w hS => by obtain ⟨c0, c1, c2, c3, c4, c5, c6⟩ := ocells_at hS; go_simp⟩) hH ?_
              simp only [Act.put, List.setIfInBounds_toArray, List.set_cons_zero, List.set_cons_succ]
              refine wpAnyH_take (i := 11) (oi := { dst := some 77, op := Go.Op.move (Go.Operand.tmp 76), type := 4, pos := "law.go:93", after := #[{ on := 10, ground := Go.Ground.data }, { on := 2, ground := Go.Ground.chain }], guard := none }) (v := .bool false) rfl (by kernel_rfl) (by kernel_rfl) (by kernel_rfl) (fun _ _ _ h => h) (Or.inl ⟨by rfl, fun w hS => by obtain ⟨c0, c1, c2, c3, c4, c5, c6⟩ := ocells_at hS; go_simp⟩) hH ?_
              simp only [Act.put, List.setIfInBounds_toArray, List.set_cons_zero, List.set_cons_succ]
              refine wpAnyH_take (i := 12) (oi := { dst := some 78, op := Go.Op.move (Go.Operand.tmp 5), type := 26, pos := "law.go:93", after := #[{ on := 11, ground := Go.Ground.guard }], guard := some (11, true) }) (v := undef) rfl (by kernel_rfl) (by kernel_rfl) (by kernel_rfl) (fun _ _ _ h => h) (Or.inr ⟨by rfl, rfl⟩) hH ?_
              simp only [Act.put, List.setIfInBounds_toArray, List.set_cons_zero, List.set_cons_succ]
              refine wpAnyH_take (i := 13) (oi := { dst := some 79, op := Go.Op.move (Go.Operand.tmp 11), type := 2, pos := "law.go:93", after := #[{ on := 11, ground := Go.Ground.guard }], guard := some (11, true) }) (v := undef) rfl (by kernel_rfl) (by kernel_rfl) (by kernel_rfl) (fun _ _ _ h => h) (Or.inr ⟨by rfl, rfl⟩) hH ?_
              simp only [Act.put, List.setIfInBounds_toArray, List.set_cons_zero, List.set_cons_succ]
              refine wpAnyH_take (i := 14) (oi := { dst := some 80, op := Go.Op.fieldAddr 42 (Go.Operand.tmp 13) 2, type := 0, pos := "law.go:93", after := #[{ on := 11, ground := Go.Ground.guard }], guard := some (11, true) }) (v := undef) rfl (by kernel_rfl) (by kernel_rfl) (by kernel_rfl) (fun _ _ _ h => h) (Or.inr ⟨by rfl, rfl⟩) hH ?_
              simp only [Act.put, List.setIfInBounds_toArray, List.set_cons_zero, List.set_cons_succ]
              refine wpAnyH_take (i := 15) (oi := { dst := some 81, op := Go.Op.load 3 (Go.Operand.tmp 80), type := 3, pos := "law.go:93", after := #[{ on := 14, ground := Go.Ground.data }, { on := 11, ground := Go.Ground.guard }], guard := some (11, true) }) (v := undef) rfl (by kernel_rfl) (by kernel_rfl) (by kernel_rfl) (fun _ _ _ h => h) (Or.inr ⟨by rfl, rfl⟩) hH ?_
              simp only [Act.put, List.setIfInBounds_toArray, List.set_cons_zero, List.set_cons_succ]
              refine wpAnyH_take (i := 16) (oi := { dst := some 82, op := Go.Op.fieldAddr 42 (Go.Operand.tmp 13) 3, type := 0, pos := "law.go:93", after := #[{ on := 11, ground := Go.Ground.guard }], guard := some (11, true) }) (v := undef) rfl (by kernel_rfl) (by kernel_rfl) (by kernel_rfl) (fun _ _ _ h => h) (Or.inr ⟨by rfl, rfl⟩) hH ?_
              simp only [Act.put, List.setIfInBounds_toArray, List.set_cons_zero, List.set_cons_succ]
              refine wpAnyH_take (i := 17) (oi := { dst := some 83, op := Go.Op.load 35 (Go.Operand.tmp 82), type := 35, pos := "law.go:93", after := #[{ on := 16, ground := Go.Ground.data }, { on := 11, ground := Go.Ground.guard }], guard := some (11, true) }) (v := undef) rfl (by kernel_rfl) (by kernel_rfl) (by kernel_rfl) (fun _ _ _ h => h) (Or.inr ⟨by rfl, rfl⟩) hH ?_
              simp only [Act.put, List.setIfInBounds_toArray, List.set_cons_zero, List.set_cons_succ]
              refine wpAnyH_take (i := 18) (oi := { dst := some 84, op := Go.Op.call { callee := Go.Callee.value (Go.Operand.func 13), args := #[Go.Operand.tmp 83], argTypes := #[35] }, type := 46, pos := "law.go:93", after := #[{ on := 17, ground := Go.Ground.data }, { on := 11, ground := Go.Ground.chain }, { on := 11, ground := Go.Ground.guard }], guard := some (11, true) }) (v := undef) rfl (by kernel_rfl) (by kernel_rfl) (by kernel_rfl) (fun _ _ _ h => h) (Or.inr ⟨by rfl, rfl⟩) hH ?_
              simp only [Act.put, List.setIfInBounds_toArray, List.set_cons_zero, List.set_cons_succ]
              refine wpAnyH_take (i := 19) (oi := { dst := some 85, op := Go.Op.fieldAddr 42 (Go.Operand.tmp 13) 4, type := 0, pos := "law.go:93", after := #[{ on := 11, ground := Go.Ground.guard }], guard := some (11, true) }) (v := undef) rfl (by kernel_rfl) (by kernel_rfl) (by kernel_rfl) (fun _ _ _ h => h) (Or.inr ⟨by rfl, rfl⟩) hH ?_
              simp only [Act.put, List.setIfInBounds_toArray, List.set_cons_zero, List.set_cons_succ]
              refine wpAnyH_take (i := 20) (oi := { dst := some 86, op := Go.Op.load 4 (Go.Operand.tmp 85), type := 4, pos := "law.go:93", after := #[{ on := 19, ground := Go.Ground.data }, { on := 11, ground := Go.Ground.guard }], guard := some (11, true) }) (v := undef) rfl (by kernel_rfl) (by kernel_rfl) (by kernel_rfl) (fun _ _ _ h => h) (Or.inr ⟨by rfl, rfl⟩) hH ?_
              simp only [Act.put, List.setIfInBounds_toArray, List.set_cons_zero, List.set_cons_succ]
              refine wpAnyH_take (i := 21) (oi := { dst := some 87, op := Go.Op.call { callee := Go.Callee.value (Go.Operand.func 12), args := #[Go.Operand.tmp 78, Go.Operand.tmp 79, Go.Operand.tmp 81, Go.Operand.tmp 84, Go.Operand.tmp 86], argTypes := #[26, 2, 3, 46, 4] }, type := 27, pos := "law.go:93", after := #[{ on := 12, ground := Go.Ground.data }, { on := 13, ground := Go.Ground.data }, { on := 15, ground := Go.Ground.data }, { on := 18, ground := Go.Ground.data }, { on := 20, ground := Go.Ground.data }, { on := 18, ground := Go.Ground.chain }, { on := 11, ground := Go.Ground.guard }], guard := some (11, true) }) (v := undef) rfl (by kernel_rfl) (by kernel_rfl) (by kernel_rfl) (fun _ _ _ h => h) (Or.inr ⟨by rfl, rfl⟩) hH ?_
              simp only [Act.put, List.setIfInBounds_toArray, List.set_cons_zero, List.set_cons_succ]
              refine wpAnyH_take (i := 22) (oi := { dst := some 88, op := Go.Op.binOp Go.BinOp.eql 27 (Go.Operand.tmp 87) (Go.Operand.const (Go.Value.int Go.IntKind.i64 0)) 27, type := 4, pos := "law.go:93", after := #[{ on := 21, ground := Go.Ground.data }, { on := 11, ground := Go.Ground.guard }], guard := some (11, true) }) (v := undef) rfl (by kernel_rfl) (by kernel_rfl) (by kernel_rfl) (fun _ _ _ h => h) (Or.inr ⟨by rfl, rfl⟩) hH ?_
              simp only [Act.put, List.setIfInBounds_toArray, List.set_cons_zero, List.set_cons_succ]
              refine wpAnyH_take (i := 23) (oi := { dst := some 89, op := Go.Op.pick (Go.Operand.tmp 77) (Go.Operand.tmp 88) (Go.Operand.const (Go.Value.bool false)), type := 4, pos := "law.go:93", after := #[{ on := 11, ground := Go.Ground.data }, { on := 22, ground := Go.Ground.data }], guard := none }) (v := .bool false) rfl (by kernel_rfl) (by kernel_rfl) (by kernel_rfl) (fun _ _ _ h => h) (Or.inl ⟨by rfl, fun w hS => by obtain ⟨c0, c1, c2, c3, c4, c5, c6⟩ := ocells_at hS; go_simp⟩) hH ?_
              simp only [Act.put, List.setIfInBounds_toArray, List.set_cons_zero, List.set_cons_succ]
              clear hH
              refine wpAnyH_done (by kernel_rfl) ?_ _
              clear K7 htau hx hx'
              go_wp2_with fail
              exact ⟨⟨i + 1, q, T, E1, E2, E3, m, by have := HIL.out; omega, by have := HIL.out; omega, by go_num, HS7, M1, HL1⟩, by have := HIL.out; simp [intOf]; omega⟩
          · have h40' : ¬ (i : Int) < 40 := by omega
            have h40'' : (40 : Int) ≤ (i : Int) := by omega
            have HS7 := Kp.mk K7.out.1.drew
            refine wp_region_held_drew (S := fun w' => Blk w' O o.obj) (by kernel_rfl) (K7.out.2.draw) (fun hH => ?_)
            refine wpAnyH_take (i := 0) (oi := { dst := some 66, op := Go.Op.move (Go.Operand.tmp 12), type := 3, pos := "law.go:93", after := #[], guard := none }) (v := .int .i64 i) rfl (by kernel_rfl) (by kernel_rfl) (by kernel_rfl) (fun _ _ _ h => h) (Or.inl ⟨by rfl, fun w hS => by obtain ⟨c0, c1, c2, c3, c4, c5, c6⟩ := ocells_at hS; go_simp⟩) hH ?_
            simp only [Act.put, List.setIfInBounds_toArray, List.set_cons_zero, List.set_cons_succ]
            refine wpAnyH_take (i := 1) (oi := { dst := some 67, op := Go.Op.binOp Go.BinOp.lss 3 (Go.Operand.tmp 66) (Go.Operand.const (Go.Value.int Go.IntKind.i64 40)) 3, type := 4, pos := "law.go:93", after := #[{ on := 0, ground := Go.Ground.data }], guard := none }) (v := .bool false) rfl (by kernel_rfl) (by kernel_rfl) (by kernel_rfl) (fun _ _ _ h => h) (Or.inl ⟨by rfl, fun w hS => by obtain ⟨c0, c1, c2, c3, c4, c5, c6⟩ := ocells_at hS; go_simp⟩) hH ?_
            simp only [Act.put, List.setIfInBounds_toArray, List.set_cons_zero, List.set_cons_succ]
            refine wpAnyH_take (i := 2) (oi := { dst := some 68, op := Go.Op.move (Go.Operand.tmp 67), type := 4, pos := "law.go:93", after := #[{ on := 1, ground := Go.Ground.data }], guard := none }) (v := .bool false) rfl (by kernel_rfl) (by kernel_rfl) (by kernel_rfl) (fun _ _ _ h => h) (Or.inl ⟨by rfl, fun w hS => by obtain ⟨c0, c1, c2, c3, c4, c5, c6⟩ := ocells_at hS; go_simp⟩) hH ?_
            simp only [Act.put, List.setIfInBounds_toArray, List.set_cons_zero, List.set_cons_succ]
            refine wpAnyH_take (i := 3) (oi := { dst := some 69, op := Go.Op.fieldAddr 42 (Go.Operand.tmp 13) 1, type := 0, pos := "law.go:93", after := #[{ on := 2, ground := Go.Ground.guard }], guard := some (2, true) }) (v := undef) rfl (by kernel_rfl) (by kernel_rfl) (by kernel_rfl) (fun _ _ _ h => h) (Or.inr ⟨by rfl, rfl⟩) hH ?_
            simp only [Act.put, List.setIfInBounds_toArray, List.set_cons_zero, List.set_cons_succ]
            refine wpAnyH_take (i := 4) (oi := { dst := some 70, op := Go.Op.load 2 (Go.Operand.tmp 69), type := 2, pos := "law.go:93", after := #[{ on := 3, ground := Go.Ground.data }, { on := 2, ground := Go.Ground.guard }], guard := some (2, true) }) (v := undef) rfl (by kernel_rfl) (by kernel_rfl) (by kernel_rfl) (fun _ _ _ h => h) (Or.inr ⟨by rfl, rfl⟩) hH ?_
            simp only [Act.put, List.setIfInBounds_toArray, List.set_cons_zero, List.set_cons_succ]
            refine wpAnyH_take (i := 5) (oi := { dst := some 71, op := Go.Op.convert 2 62 (Go.Operand.tmp 70), type := 62, pos := "law.go:93", after := #[{ on := 4, ground := Go.Ground.data }, { on := 2, ground := Go.Ground.guard }], guard := some (2, true) }) (v := undef) rfl (by kernel_rfl) (by kernel_rfl) (by kernel_rfl) (fun _ _ _ h => h) (Or.inr ⟨by rfl, rfl⟩) hH ?_
            simp only [Act.put, List.setIfInBounds_toArray, List.set_cons_zero, List.set_cons_succ]
            refine wpAnyH_take (i := 6) (oi := { dst := some 72, op := Go.Op.binOp Go.BinOp.rem 62 (Go.Operand.tmp 71) (Go.Operand.const (Go.Value.int Go.IntKind.u64 60)) 62, type := 62, pos := "law.go:93", after := #[{ on := 5, ground := Go.Ground.data }, { on := 2, ground := Go.Ground.guard }], guard := some (2, true) }) (v := undef) rfl (by kernel_rfl) (by kernel_rfl) (by kernel_rfl) (fun _ _ _ h => h) (Or.inr ⟨by rfl, rfl⟩) hH ?_
            simp only [Act.put, List.setIfInBounds_toArray, List.set_cons_zero, List.set_cons_succ]
            refine wpAnyH_take (i := 7) (oi := { dst := some 73, op := Go.Op.convert 62 2 (Go.Operand.tmp 72), type := 2, pos := "law.go:93", after := #[{ on := 6, ground := Go.Ground.data }, { on := 2, ground := Go.Ground.guard }], guard := some (2, true) }) (v := undef) rfl (by kernel_rfl) (by kernel_rfl) (by kernel_rfl) (fun _ _ _ h => h) (Or.inr ⟨by rfl, rfl⟩) hH ?_
            simp only [Act.put, List.setIfInBounds_toArray, List.set_cons_zero, List.set_cons_succ]
            refine wpAnyH_take (i := 8) (oi := { dst := some 74, op := Go.Op.move (Go.Operand.tmp 11), type := 2, pos := "law.go:93", after := #[{ on := 2, ground := Go.Ground.guard }], guard := some (2, true) }) (v := undef) rfl (by kernel_rfl) (by kernel_rfl) (by kernel_rfl) (fun _ _ _ h => h) (Or.inr ⟨by rfl, rfl⟩) hH ?_
            simp only [Act.put, List.setIfInBounds_toArray, List.set_cons_zero, List.set_cons_succ]
            refine wpAnyH_take (i := 9) (oi := { dst := some 75, op := Go.Op.binOp Go.BinOp.eql 2 (Go.Operand.tmp 73) (Go.Operand.tmp 74) 2, type := 4, pos := "law.go:93", after := #[{ on := 7, ground := Go.Ground.data }, { on := 8, ground := Go.Ground.data }, { on := 2, ground := Go.Ground.guard }], guard := some (2, true) }) (v := undef) rfl (by kernel_rfl) (by kernel_rfl) (by kernel_rfl) (fun _ _ _ h => h) (Or.inr ⟨by rfl, rfl⟩) hH ?_
            simp only [Act.put, List.setIfInBounds_toArray, List.set_cons_zero, List.set_cons_succ]
            refine wpAnyH_take (i := 10) (oi := { dst := some 76, op := Go.Op.pick (Go.Operand.tmp 68) (Go.Operand.tmp 75) (Go.Operand.const (Go.Value.bool false)), type := 4, pos := "law.go:93", after := #[{ on := 2, ground := Go.Ground.data }, { on := 9, ground := Go.Ground.data }], guard := none }) (v := .bool false) rfl (by kernel_rfl) (by kernel_rfl) (by kernel_rfl) (fun _ _ _ h => h) (Or.inl ⟨by rfl, fun w hS => by obtain ⟨c0, c1, c2, c3, c4, c5, c6⟩ := ocells_at hS; go_simp⟩) hH ?_
            simp only [Act.put, List.setIfInBounds_toArray, List.set_cons_zero, List.set_cons_succ]
            refine wpAnyH_take (i := 11) (oi := { dst := some 77, op := Go.Op.move (Go.Operand.tmp 76), type := 4, pos := "law.go:93", after := #[{ on := 10, ground := Go.Ground.data }, { on := 2, ground := Go.Ground.chain }], guard := none }) (v := .bool false) rfl (by kernel_rfl) (by kernel_rfl) (by kernel_rfl) (fun _ _ _ h => h) (Or.inl ⟨by rfl, fun w hS => by obtain ⟨c0, c1, c2, c3, c4, c5, c6⟩ := ocells_at hS; go_simp⟩) hH ?_
            simp only [Act.put, List.setIfInBounds_toArray, List.set_cons_zero, List.set_cons_succ]
            refine wpAnyH_take (i := 12) (oi := { dst := some 78, op := Go.Op.move (Go.Operand.tmp 5), type := 26, pos := "law.go:93", after := #[{ on := 11, ground := Go.Ground.guard }], guard := some (11, true) }) (v := undef) rfl (by kernel_rfl) (by kernel_rfl) (by kernel_rfl) (fun _ _ _ h => h) (Or.inr ⟨by rfl, rfl⟩) hH ?_
            simp only [Act.put, List.setIfInBounds_toArray, List.set_cons_zero, List.set_cons_succ]
            refine wpAnyH_take (i := 13) (oi := { dst := some 79, op := Go.Op.move (Go.Operand.tmp 11), type := 2, pos := "law.go:93", after := #[{ on := 11, ground := Go.Ground.guard }], guard := some (11, true) }) (v := undef) rfl (by kernel_rfl) (by kernel_rfl) (by kernel_rfl) (fun _ _ _ h => h) (Or.inr ⟨by rfl, rfl⟩) hH ?_
            simp only [Act.put, List.setIfInBounds_toArray, List.set_cons_zero, List.set_cons_succ]
            refine wpAnyH_take (i := 14) (oi := { dst := some 80, op := Go.Op.fieldAddr 42 (Go.Operand.tmp 13) 2, type := 0, pos := "law.go:93", after := #[{ on := 11, ground := Go.Ground.guard }], guard := some (11, true) }) (v := undef) rfl (by kernel_rfl) (by kernel_rfl) (by kernel_rfl) (fun _ _ _ h => h) (Or.inr ⟨by rfl, rfl⟩) hH ?_
            simp only [Act.put, List.setIfInBounds_toArray, List.set_cons_zero, List.set_cons_succ]
            refine wpAnyH_take (i := 15) (oi := { dst := some 81, op := Go.Op.load 3 (Go.Operand.tmp 80), type := 3, pos := "law.go:93", after := #[{ on := 14, ground := Go.Ground.data }, { on := 11, ground := Go.Ground.guard }], guard := some (11, true) }) (v := undef) rfl (by kernel_rfl) (by kernel_rfl) (by kernel_rfl) (fun _ _ _ h => h) (Or.inr ⟨by rfl, rfl⟩) hH ?_
            simp only [Act.put, List.setIfInBounds_toArray, List.set_cons_zero, List.set_cons_succ]
            refine wpAnyH_take (i := 16) (oi := { dst := some 82, op := Go.Op.fieldAddr 42 (Go.Operand.tmp 13) 3, type := 0, pos := "law.go:93", after := #[{ on := 11, ground := Go.Ground.guard }], guard := some (11, true) }) (v := undef) rfl (by kernel_rfl) (by kernel_rfl) (by kernel_rfl) (fun _ _ _ h => h) (Or.inr ⟨by rfl, rfl⟩) hH ?_
            simp only [Act.put, List.setIfInBounds_toArray, List.set_cons_zero, List.set_cons_succ]
            refine wpAnyH_take (i := 17) (oi := { dst := some 83, op := Go.Op.load 35 (Go.Operand.tmp 82), type := 35, pos := "law.go:93", after := #[{ on := 16, ground := Go.Ground.data }, { on := 11, ground := Go.Ground.guard }], guard := some (11, true) }) (v := undef) rfl (by kernel_rfl) (by kernel_rfl) (by kernel_rfl) (fun _ _ _ h => h) (Or.inr ⟨by rfl, rfl⟩) hH ?_
            simp only [Act.put, List.setIfInBounds_toArray, List.set_cons_zero, List.set_cons_succ]
            refine wpAnyH_take (i := 18) (oi := { dst := some 84, op := Go.Op.call { callee := Go.Callee.value (Go.Operand.func 13), args := #[Go.Operand.tmp 83], argTypes := #[35] }, type := 46, pos := "law.go:93", after := #[{ on := 17, ground := Go.Ground.data }, { on := 11, ground := Go.Ground.chain }, { on := 11, ground := Go.Ground.guard }], guard := some (11, true) }) (v := undef) rfl (by kernel_rfl) (by kernel_rfl) (by kernel_rfl) (fun _ _ _ h => h) (Or.inr ⟨by rfl, rfl⟩) hH ?_
            simp only [Act.put, List.setIfInBounds_toArray, List.set_cons_zero, List.set_cons_succ]
            refine wpAnyH_take (i := 19) (oi := { dst := some 85, op := Go.Op.fieldAddr 42 (Go.Operand.tmp 13) 4, type := 0, pos := "law.go:93", after := #[{ on := 11, ground := Go.Ground.guard }], guard := some (11, true) }) (v := undef) rfl (by kernel_rfl) (by kernel_rfl) (by kernel_rfl) (fun _ _ _ h => h) (Or.inr ⟨by rfl, rfl⟩) hH ?_
            simp only [Act.put, List.setIfInBounds_toArray, List.set_cons_zero, List.set_cons_succ]
            refine wpAnyH_take (i := 20) (oi := { dst := some 86, op := Go.Op.load 4 (Go.Operand.tmp 85), type := 4, pos := "law.go:93", after := #[{ on := 19, ground := Go.Ground.data }, { on := 11, ground := Go.Ground.guard }], guard := some (11, true) }) (v := undef) rfl (by kernel_rfl) (by kernel_rfl) (by kernel_rfl) (fun _ _ _ h => h) (Or.inr ⟨by rfl, rfl⟩) hH ?_
            simp only [Act.put, List.setIfInBounds_toArray, List.set_cons_zero, List.set_cons_succ]
            refine wpAnyH_take (i := 21) (oi := { dst := some 87, op := Go.Op.call { callee := Go.Callee.value (Go.Operand.func 12), args := #[Go.Operand.tmp 78, Go.Operand.tmp 79, Go.Operand.tmp 81, Go.Operand.tmp 84, Go.Operand.tmp 86], argTypes := #[26, 2, 3, 46, 4] }, type := 27, pos := "law.go:93", after := #[{ on := 12, ground := Go.Ground.data }, { on := 13, ground := Go.Ground.data }, { on := 15, ground := Go.Ground.data }, { on := 18, ground := Go.Ground.data }, { on := 20, ground := Go.Ground.data }, { on := 18, ground := Go.Ground.chain }, { on := 11, ground := Go.Ground.guard }], guard := some (11, true) }) (v := undef) rfl (by kernel_rfl) (by kernel_rfl) (by kernel_rfl) (fun _ _ _ h => h) (Or.inr ⟨by rfl, rfl⟩) hH ?_
            simp only [Act.put, List.setIfInBounds_toArray, List.set_cons_zero, List.set_cons_succ]
            refine wpAnyH_take (i := 22) (oi := { dst := some 88, op := Go.Op.binOp Go.BinOp.eql 27 (Go.Operand.tmp 87) (Go.Operand.const (Go.Value.int Go.IntKind.i64 0)) 27, type := 4, pos := "law.go:93", after := #[{ on := 21, ground := Go.Ground.data }, { on := 11, ground := Go.Ground.guard }], guard := some (11, true) }) (v := undef) rfl (by kernel_rfl) (by kernel_rfl) (by kernel_rfl) (fun _ _ _ h => h) (Or.inr ⟨by rfl, rfl⟩) hH ?_
            simp only [Act.put, List.setIfInBounds_toArray, List.set_cons_zero, List.set_cons_succ]
            refine wpAnyH_take (i := 23) (oi := { dst := some 89, op := Go.Op.pick (Go.Operand.tmp 77) (Go.Operand.tmp 88) (Go.Operand.const (Go.Value.bool false)), type := 4, pos := "law.go:93", after := #[{ on := 11, ground := Go.Ground.data }, { on := 22, ground := Go.Ground.data }], guard := none }) (v := .bool false) rfl (by kernel_rfl) (by kernel_rfl) (by kernel_rfl) (fun _ _ _ h => h) (Or.inl ⟨by rfl, fun w hS => by obtain ⟨c0, c1, c2, c3, c4, c5, c6⟩ := ocells_at hS; go_simp⟩) hH ?_
            simp only [Act.put, List.setIfInBounds_toArray, List.set_cons_zero, List.set_cons_succ]
            clear hH
            refine wpAnyH_done (by kernel_rfl) ?_ _
            clear K7 htau h40
            go_wp2_with fail
            exact ⟨⟨i + 1, q, T, E1, E2, E3, m, by have := HIL.out; omega, by have := HIL.out; omega, by go_num, HS7, M1, HL1⟩, by have := HIL.out; simp [intOf]; omega⟩
        · have hi' : i = len := by omega
          have hil' : ¬ (i : Int) < (len : Int) := by omega
          have hil'' : (len : Int) ≤ (i : Int) := by omega
          have HMM : Kp (m ≤ 120 * (k + 1)) := ⟨by have := HK.out; omega⟩
          have HT : Kp (0 ≤ (k : Int) ∧ (k : Int) < 60) := ⟨by have := HK.out; omega⟩
          clear hil hi hm
          subst hi'
          go_wp2_with fail
          refine (due_any q k t _ K1.out.own.blk K1.out.own.ok).mono ?_
          rintro r w4 ⟨v, rfl, ho, hT⟩
          obtain ⟨va, vc, rfl, -⟩ := row_slice ho
          have hr := due_rest (p := q) HT.out
          have HPP : Kp (q.period = P ∧ q.settle = Q) := ⟨K1.out.per, K1.out.set⟩
          have K4 : Kp (SW W0 t b b2 b3 m P Q (q.due k) E1 E2 E3 w4) := ⟨K1.out.turn hT (K1.out.own.ok.due _) hr.1 hr.2⟩
          have R4 := Kp.mk ho
          have HB4 : Kp (w4.cell? ⟨B, 0, none⟩ = some (.int .i64 P)) := ⟨(U.out.1.keep K4.out.own.hb).cell 0⟩
          obtain ⟨ml, hml⟩ : ∃ x, x = (q.dueL k).length := ⟨_, rfl⟩
          obtain ⟨RB, hRB⟩ : ∃ x, x = wr.heap.size := ⟨_, rfl⟩
          rw [dueF_is HT.out]
          rw [← hml, ← hRB] at R4
          rw [← hml]
          have HML := Kp.mk hml
          clear hml hRB ho hT hr K1
          go_upto_if 134 with fail
          go_cut [7, 10, 18] (fun s l _ wx => ∃ (b' : Nat) (D : DataW Unit), s = .map (some b') ∧ l = .int .i64 (lastM (q.due k)) ∧ Kp (SW W0 t b' b2 b3 m P Q (q.due k) D E2 E3 wx) ∧ Kp (MS D (HL q k 0) T) ∧ Kp (wx.ownsRow RB 3 1 (.slice va ml vc) ml (nv (q.dueL k))))
          case first =>
            cases hf : q.full k with
            | true =>
              have hml0 : ((ml : Int) != 0) = false := by rw [HML.out, dueL_full hf]; rfl
              have HLK := Kp.mk (last_full HT.out hf)
              have HWF : Kp (those (q.due k) (fun n => n.waits) 8 = []) := ⟨waits_full HT.out hf⟩
              have HMS : Kp (MS (.map []) (HL q k 0) T) := ⟨MS.nil (HL_full HT.out hf) T⟩
              have c0 := HB4.out
              have HLA : Kp (0 ≤ L0 → (k : Int) - L0 = P) := ⟨fun h => by rw [← HL1.out, ← HPP.out.1]; exact last_at M1.out.pi hf (by rw [HL1.out]; exact h)⟩
              clear hf
              have HWA : Kp (Calls Try.prog 18 #[.pointer (some ⟨t, 0, none⟩)] w4 fun r w' => (∃ a c, r = .returned (.slice a 0 c)) ∧ Below w4.heap.size w4 w') := ⟨(waits_any _ t w4 K4.out.own.blk).mono (by
                rintro r w5 ⟨v, rfl, ho, hb⟩
                rw [HWF.out] at ho
                obtain ⟨a, c, rfl, -⟩ := row_slice ho
                exact ⟨⟨a, c, rfl⟩, hb⟩)⟩
              by_cases hl0 : 0 ≤ L0
              case' pos =>
                have hsub := HLA.out hl0
                have hw1 : IntKind.i64.wrap ((k : Int) - L0) = P := by rw [hsub]; exact IntWalk.i64_in _ (by have := HPQ.out; omega)
                have hw2 : wrap64 ((k : Int) - L0) = P := by rw [hsub]; unfold wrap64; have := HPQ.out; omega
                clear hsub
              all_goals
                go_wp2_with fail
                refine HWA.out.mono ?_
                rintro r w5 ⟨⟨a5, c5, rfl⟩, hb⟩
                have K5 := Kp.mk (K4.out.keep hb)
                have R5 : Kp (w5.ownsRow RB 3 1 (.slice va ml vc) ml (nv (q.dueL k))) := ⟨ownsRow_below R4.out hb⟩
                clear hb
                go_wp2_with fail
                go_meet
                case rel => exact ⟨_, _, rfl, by rw [HLK.out], ⟨K5.out.fresh⟩, HMS, ⟨ownsRow_below R5.out (more (Below.refl _ _) _)⟩⟩
            | false =>
              have HLK : Kp (lastM (q.due k) = L0) := ⟨by rw [last_part HT.out hf, HL1.out]⟩
              have HMS : Kp (MS E1 (HL q k 0) T) := ⟨M1.out.m1.congr (HL_part HT.out hf) (fun _ _ => rfl)⟩
              clear hf
              go_wp2_with fail
              go_meet
              case rel => exact ⟨b, E1, rfl, by rw [HLK.out], K4, HMS, R4⟩
          case rest =>
            obtain ⟨b', D, rfl, rfl, K5, N5, R5⟩ := hcut
            clear K4 R4 HB4
            obtain ⟨q', hq'⟩ : ∃ x, x = q.due k := ⟨_, rfl⟩
            obtain ⟨L1, hL1⟩ : ∃ x, x = lastM (q.due k) := ⟨_, rfl⟩
            rw [← hL1]
            have HLL : Kp (L1 = lastM q' ∧ q' = q.due k) := ⟨by rw [hL1, hq'], hq'⟩
            rw [← hq'] at K5
            clear hq' hL1
            have hmlm : ml ≤ 9223372036854775807 := by have := dueL_len q k; have := HML.out; omega
            go_wp2_with fail
            go_loopw [21, 22, 23, 160] (fun _ _ _ c wr => ∃ (j : Nat) (D : DataW Unit), j ≤ ml ∧ c = .int .i64 j ∧ Kp (SW W0 t b' b2 b3 m P Q q' D E2 E3 wr) ∧ Kp (MS D (HL q k j) T) ∧ Kp (wr.ownsRow RB 3 1 (.slice va ml vc) ml (nv (q.dueL k)))) (fun _ _ _ c _ => ml - (intOf c).toNat)
            case atStart => exact ⟨0, D, by omega, rfl, K5, N5, R5⟩
            case round =>
              clear K5 N5 R5
              obtain ⟨j, D, hj, rfl, K6, N6, R6⟩ := hrel
              by_cases hjl : j < ml
              · have hjl' : (j : Int) < (ml : Int) := by omega
                obtain ⟨a9, c9, e9, e9'⟩ := row_slice (l := q.dueL k) (by rw [← HML.out]; exact R6.out)
                simp only [Value.slice.injEq] at e9
                obtain ⟨rfl, -, rfl⟩ := e9
                obtain ⟨g, rfl, hc⟩ := e9' j (by rw [← HML.out]; exact hjl)
                obtain ⟨hs1, hs2, hs3⟩ := HL_step HT.out (p := q) (i := j) (by rw [← HML.out]; exact hjl)
                have HS3 := Kp.mk hs3
                have HJL := Kp.mk hjl
                clear e9' hs3 hjl
                generalize (q.dueL k).getD j 0 = d at hc hs1 hs2 HS3
                have hd : 0 ≤ (d : Int) ∧ (d : Int) < 8 := by omega
                have HD := Kp.mk hd
                clear hd hs2
                go_wp2_with (first
                  | (at_lookup; refine wpList_lookup_ms _ rfl _ _ rfl b' m D _ _ rfl K6.out.o1 N6.out d rfl HD.out ?_; intro c8)
                  | (at_delete; refine wpList_delete_own _ rfl _ _ 60 3 rfl 2 law3m Try.underlying60 _ b' m D rfl K6.out.o1 _ _ rfl (key3m HD.out) ?_; intro w8 hown hturn; (have K8 := Kp.mk (K6.out.map1 hturn.grown (Nat.le_refl _) hown)); (have R8 := Kp.mk (row_mapped R6.out K6.out.o1 hturn.grown)); clear hown hturn))
                exact ⟨⟨j + 1, _, by have := HJL.out; omega, by go_num, K8, ⟨(N6.out.del d).congr HS3.out (fun _ _ => rfl)⟩, R8⟩, by have := HJL.out; simp [intOf]; omega⟩
              · obtain rfl : j = ml := by omega
                have N7 : Kp (MS D (wtM q') T) := ⟨N6.out.congr (fun x => by rw [HLL.out.2, HML.out, HL_end]) (fun _ _ => rfl)⟩
                have M7 : Kp (SM q' (k + 1 : Nat) T D E2 E3) := ⟨by rw [HLL.out.2, Int.natCast_add]; exact M1.out.due HT.out (by rw [HPP.out.1]; exact HPQ.out.1.1) (by rw [← HLL.out.2]; exact N7.out)⟩
                have HSN : Kp (∀ x, wtM q' x = true → (0 ≤ T x ∧ T x ≤ k ∧ (k : Int) - T x < P) ∧ 0 ≤ fsM q' x ∧ fsM q' x ≤ k ∧ (k : Int) - fsM q' x < Q) := ⟨fun x hx => by
                  have := soon M1.out.pi HT.out (x := x) (by rw [← HLL.out.2]; exact hx)
                  rw [HLL.out.2, due_fs HT.out, ← HPP.out.1, ← HPP.out.2]
                  exact this⟩
                obtain ⟨wB, hwB⟩ : ∃ x, x = wr := ⟨_, rfl⟩
                have K7 : Kp (SW W0 t b' b2 b3 m P Q q' D E2 E3 wB) := ⟨by rw [hwB]; exact K6.out⟩
                obtain ⟨rb, hrb⟩ : ∃ x, x = wr.heap.size := ⟨_, rfl⟩
                have HRB : Kp (rb = wB.heap.size) := ⟨by rw [hwB]; exact hrb⟩
                go_wp2_with (at_range; refine wpList_range_own _ rfl _ 60 rfl 3 2 law3m Try.underlying60 _ b' m D rfl K6.out.o1 ?_; intro w0 hrg0 hg0 hs0; rw [← hrb] at hrg0 hs0 ⊢; (have G0 := Kp.mk hrg0); (have Y0 : Kp (Below rb wB w0) := ⟨by rw [hwB]; exact (Below.refl _ _).grown hg0 (by omega) (fun k hk => by cases hk)⟩); (have Z0 : Kp (rb < w0.heap.size) := ⟨by omega⟩); clear hrg0 hg0 hs0)
                clear hrb hwB K6 N6 R6 M1
                go_frame
                go_loopw [24, 25] (fun _ _ wr => ∃ (left : Lit → Bool) (cnt : Nat), Kp (wr.ranges Try.prog 3 (plainElem (H := Unit) Try.prog 2) b' rb m D left cnt) ∧ Kp (Below rb wB wr) ∧ Kp (rb < wr.heap.size)) (fun _ _ wr => wr.rangeLeft b' rb)
                case atStart => exact ⟨_, _, G0, Y0, Z0⟩
                case round =>
                  clear G0 Y0 Z0
                  obtain ⟨left, cnt, G1, Y1, Z1⟩ := hrel
                  have K8 : Kp (SW W0 t b' b2 b3 m P Q q' D E2 E3 wr) := ⟨K7.out.keep (by rw [← HRB.out]; exact Y1.out)⟩
                  go_wp2_with (at_next; refine wpList_next_ranges_ii _ rfl _ rfl 3 2 .i64 .i64 law3m Try.underlying3 Try.underlying2 b' rb m D left cnt rfl G1.out ?_ ?_)
                  case refine_1 =>
                    intro hc0 hl0
                    clear hc0 hl0 G1 Y1 Z1
                    go_wp2_with fail
                    exact ⟨⟨k + 1, q', T, D, E2, E3, b', m, by have := HT.out; omega, HMM.out, by go_num, rfl, by rw [HLL.out.1], K8, M7⟩, by have := HT.out; simp [intOf]; omega⟩
                  case refine_2 =>
                    intro x c w9 cnt1 hwx hwc hlx hat hrg1 hlt hg1 hs1 hen
                    have hh : has D (kx x) = true := has_true_of_atKey hat
                    have hx := (N7.out.has x).symm.trans hh
                    obtain ⟨⟨a1, a2, a3⟩, a4, a5, a6⟩ := HSN.out x hx
                    have hx8 := in8w hx
                    have e1 : c = T x := by
                      have h1 := (hat (.lit (.int .i64 0))).symm.trans (N7.out.val x hx _)
                      injection h1 with h1
                      injection h1
                    rw [← e1] at a1 a2 a3
                    have Y9 : Kp (Below rb wB w9) := ⟨Y1.out.grown hg1 (Nat.le_of_lt Z1.out) (fun j hj => by injection hj with hj; omega)⟩
                    have K9 : Kp (SW W0 t b' b2 b3 m P Q q' D E2 E3 w9) := ⟨K7.out.keep (by rw [← HRB.out]; exact Y9.out)⟩
                    obtain ⟨c2, hrun, hat2, hwc2⟩ := K9.out.o2.lookup_int law3m Try.underlying60 Try.underlying2 (zero2m w9) (key3m hx8)
                    have e2 : c2 = fsM q' x := by
                      have h1 := hat2.symm.trans (M7.out.m2.val x (M7.out.pi.wn x hx) _)
                      injection h1 with h1
                      injection h1
                    rw [← e2] at a4 a5 a6
                    have G9 := Kp.mk hrg1
                    have Z9 : Kp (rb < w9.heap.size) := ⟨by have := Z1.out; omega⟩
                    have HME : Kp (w9.rangeLeft b' rb < wr.rangeLeft b' rb) := ⟨by rw [hrg1.left_eq, G1.out.left_eq]; exact hlt⟩
                    have hk60 := HT.out
                    have i1 : IntKind.i64.wrap ((k : Int) - c) = (k : Int) - c := IntWalk.i64_in _ (by omega)
                    have i2 : IntKind.i64.wrap ((k : Int) - c2) = (k : Int) - c2 := IntWalk.i64_in _ (by omega)
                    have i1' : wrap64 ((k : Int) - c) = (k : Int) - c := by unfold wrap64; omega
                    have i2' : wrap64 ((k : Int) - c2) = (k : Int) - c2 := by unfold wrap64; omega
                    have g1 : decide (P ≤ (k : Int) - c) = false := by simp; omega
                    have g2 : decide (Q ≤ (k : Int) - c2) = false := by simp; omega
                    have g1' : ¬ P ≤ (k : Int) - c := by omega
                    have g2' : ¬ Q ≤ (k : Int) - c2 := by omega
                    have c0 := (U.out.1.keep K9.out.own.hb).cell 0
                    have c1 := (U.out.1.keep K9.out.own.hb).cell 1
                    simp at c0 c1
                    clear hwx hwc hlx hat hrg1 hlt hg1 hs1 hh hx a1 a2 a3 a4 a5 a6 hx8 e1 e2 hat2 hwc2 hk60 G1 Y1 Z1 K8
                    go_wp2_with fail
                    exact ⟨⟨_, cnt1, G9, Y9, Z9⟩, HME.out⟩
    · obtain rfl : k = 60 := by omega
      have hev : p.ever = true := by
        cases he : p.ever with
        | true => rfl
        | false => have := M0.out.pi.ev he; omega
      have HL : 0 ≤ L0 := by rw [HL0.out]; unfold lastM; rw [if_pos hev]; exact (M0.out.pi.told hev).1
      clear hev
      go_wp2_with fail
      go_ret
      exact ⟨rfl, U.out.2.trans (K0.out.own.hb.mono U.out.2.size)⟩
end Go.Proofs.Ytfnjfoconklhiaa
