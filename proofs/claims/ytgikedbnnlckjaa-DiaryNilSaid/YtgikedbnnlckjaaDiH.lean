/-
  layer 15: put of a marker, Start without records, the document's example.
-/
import Derived.Test.YtgikedbnnlckjaaDiG
namespace Go.Proofs.Ytgikedbnnlckjaa
open Go.RowKit

theorem or03 : bits .or .u8 2 4 = 6 := by decide
theorem or17 : bits .or .u8 1 6 = 7 := by decide
theorem or01 : bits .or .u8 0 1 = 1 := by decide
set_option maxRecDepth 100000 in
set_option maxHeartbeats 4000000 in
theorem mark_any (db g : Nat) (v : Value) (s s1 : SlS) (gen : Int) (w : World) (h : DiIs w db g v s gen 0) (hn : 2 ≤ s.n) (hst : s.st ≤ 900000) (hq : s.q.length ≤ 900000)
    (hw : wipeR (s.n / 2) s gen 0 = (s1, 0)) (h1 : s1.st + 1 ≤ 1000000) (h2 : s1.q.length ≤ 1000000) (hwe : writeE s1 (begN s1.n gen : Nat) = 0) :
    Calls Try.prog 48 #[dP db, .slice none 0 0, .int .u8 4] w fun r w' => ∃ v' w1, r = .returned (.int .i64 0) ∧ SlStep g v v' (writeS s1 (begN s1.n gen : Nat) (sealZ gen 0 7 [])) w w1 ∧ w' = w1.setCell ⟨db, 2, none⟩ (.int .i64 1) := by
  have H := Kp.mk h
  have HST0 := Kp.mk hst
  have HQL0 := Kp.mk hq
  have HW := Kp.mk hw
  have HST := Kp.mk h1
  have HQL := Kp.mk h2
  have HWE := Kp.mk hwe
  have HG : Kp (0 ≤ gen ∧ gen < 4294967296) := ⟨by have := h.gr; omega⟩
  obtain ⟨half, hhf⟩ : ∃ half, half = s.n / 2 := ⟨_, rfl⟩
  have HHF := Kp.mk hhf
  have hh1 : ¬ (half : Int) < 1 := by omega
  have HH1 : Kp (¬ (half : Int) < 1) := ⟨hh1⟩
  have o1 := or03
  have o2 := or17
  have o3 := or01
  clear h hst hq hhf hw h1 h2 hwe hn
  have hneed := need_any 0 w (by decide)
  go_enter Try.func48, Try.ntmps48
  go_wp2_with fail
  refine hneed.mono ?_
  rintro r w1 ⟨rfl, rfl⟩
  rw [if_pos (by decide)]
  clear hneed
  go_wp2_with fail
  refine (free_any db g v s gen 0 _ H.out).mono ?_
  rintro r w2 ⟨rfl, hb2⟩
  rw [← HHF.out, show ((half : Int) - ((0 : Nat) : Int)) = half by simp]
  have HD2 := Kp.mk (H.out.keep hb2)
  have HT2 : Kp (SlStep g v v s w w2) := ⟨SlStep.same H.out.is hb2⟩
  have c2 : w2.cell? ⟨db, 2, none⟩ = some (.int .i64 0) := HD2.out.b.cell 2
  clear hb2
  go_wp2_with fail
  refine (wipe_any db g v s gen 0 _ HD2.out HST0.out HQL0.out).mono ?_
  rintro r wL ⟨v1, rfl, h3⟩
  rw [HW.out] at h3
  rw [HW.out]
  have HD := Kp.mk (HD2.out.step h3)
  have HT : Kp (SlStep g v v1 s1 w wL) := ⟨HT2.out.trans h3⟩
  clear h3 c2 HD2 HT2
  go_wp2_with fail
  go_loopw [36] (fun i wr => (i = .int .i64 0 ∧ wr = wL) ∨ (i = .int .i64 1 ∧ ∃ v2, DiIs wr db g v2 (writeS s1 (begN s1.n gen : Nat) (sealZ gen 0 7 [])) gen 0 ∧ SlStep g v v2 (writeS s1 (begN s1.n gen : Nat) (sealZ gen 0 7 [])) w wr)) (fun i _ => 1 - (intOf i).toNat)
  case atStart => exact .inl ⟨rfl, rfl⟩
  case round =>
    rcases hrel with ⟨rfl, rfl⟩ | ⟨rfl, v2, hd, ht⟩
    · have hmn : min (50 : Int) 0 = 0 := by decide
      go_wp2_with fail
      refine wp_region_held_drew (S := fun w' => Blk w' db (dObj g gen 0)) (by kernel_rfl) (HD.out.b.draw) (fun hH => ?_)
      refine wpAnyH_take (i := 0) (oi := { dst := some 61, op := Go.Op.move (Go.Operand.tmp 0), type := 52, pos := "diary.go:102", after := #[], guard := none }) (v := .pointer (some ⟨db, 0, none⟩)) rfl (by kernel_rfl) (by kernel_rfl) (by kernel_rfl) (fun _ _ _ h => h) (Or.inl ⟨by rfl, fun w hS => by first | rfl | go_simp⟩) hH ?_
      simp only [Act.put, List.setIfInBounds_toArray, List.set_cons_zero, List.set_cons_succ]
      refine wpAnyH_take (i := 1) (oi := { dst := some 62, op := Go.Op.move (Go.Operand.tmp 0), type := 52, pos := "diary.go:102", after := #[], guard := none }) (v := .pointer (some ⟨db, 0, none⟩)) rfl (by kernel_rfl) (by kernel_rfl) (by kernel_rfl) (fun _ _ _ h => h) (Or.inl ⟨by rfl, fun w hS => by first | rfl | go_simp⟩) hH ?_
      simp only [Act.put, List.setIfInBounds_toArray, List.set_cons_zero, List.set_cons_succ]
      refine wpAnyH_take (i := 2) (oi := { dst := some 63, op := Go.Op.nilCheck (Go.Operand.tmp 62), type := 0, pos := "diary.go:102", after := #[{ on := 1, ground := Go.Ground.data }], guard := none }) (v := .pointer (some ⟨db, 0, none⟩)) rfl (by kernel_rfl) (by kernel_rfl) (by kernel_rfl) (fun _ _ _ h => h) (Or.inl ⟨by rfl, fun w hS => by first | rfl | go_simp⟩) hH ?_
      simp only [Act.put, List.setIfInBounds_toArray, List.set_cons_zero, List.set_cons_succ]
      refine wpAnyH_take (i := 3) (oi := { dst := some 64, op := Go.Op.fieldAddr 89 (Go.Operand.tmp 63) 2, type := 0, pos := "diary.go:102", after := #[{ on := 2, ground := Go.Ground.data }], guard := none }) (v := .pointer (some ⟨db, 2, none⟩)) rfl (by kernel_rfl) (by kernel_rfl) (by kernel_rfl) (fun _ _ _ h => h) (Or.inl ⟨by rfl, fun w hS => by first | rfl | go_simp⟩) hH ?_
      simp only [Act.put, List.setIfInBounds_toArray, List.set_cons_zero, List.set_cons_succ]
      refine wpAnyH_take (i := 4) (oi := { dst := some 65, op := Go.Op.load 3 (Go.Operand.tmp 64), type := 3, pos := "diary.go:102", after := #[{ on := 3, ground := Go.Ground.data }], guard := none }) (v := .int .i64 0) rfl (by kernel_rfl) (by kernel_rfl) (by kernel_rfl) (fun _ _ _ h => h) (Or.inl ⟨by rfl, fun w hS => by have h1 := hS.cell 2; go_simp⟩) hH ?_
      simp only [Act.put, List.setIfInBounds_toArray, List.set_cons_zero, List.set_cons_succ]
      refine wpAnyH_take (i := 5) (oi := { dst := some 66, op := Go.Op.move (Go.Operand.tmp 9), type := 3, pos := "diary.go:102", after := #[], guard := none }) (v := .int .i64 0) rfl (by kernel_rfl) (by kernel_rfl) (by kernel_rfl) (fun _ _ _ h => h) (Or.inl ⟨by rfl, fun w hS => by first | rfl | go_simp⟩) hH ?_
      simp only [Act.put, List.setIfInBounds_toArray, List.set_cons_zero, List.set_cons_succ]
      refine wpAnyH_take (i := 6) (oi := { dst := some 67, op := Go.Op.binOp Go.BinOp.add 3 (Go.Operand.tmp 65) (Go.Operand.tmp 66) 3, type := 3, pos := "diary.go:102", after := #[{ on := 4, ground := Go.Ground.data }, { on := 5, ground := Go.Ground.data }], guard := none }) (v := .int .i64 0) rfl (by kernel_rfl) (by kernel_rfl) (by kernel_rfl) (fun _ _ _ h => h) (Or.inl ⟨by rfl, fun w hS => by first | rfl | go_simp⟩) hH ?_
      simp only [Act.put, List.setIfInBounds_toArray, List.set_cons_zero, List.set_cons_succ]
      refine wpAnyH_take (i := 7) (oi := { dst := some 68, op := Go.Op.move (Go.Operand.tmp 0), type := 52, pos := "diary.go:102", after := #[], guard := none }) (v := .pointer (some ⟨db, 0, none⟩)) rfl (by kernel_rfl) (by kernel_rfl) (by kernel_rfl) (fun _ _ _ h => h) (Or.inl ⟨by rfl, fun w hS => by first | rfl | go_simp⟩) hH ?_
      simp only [Act.put, List.setIfInBounds_toArray, List.set_cons_zero, List.set_cons_succ]
      refine wpAnyH_take (i := 8) (oi := { dst := some 69, op := Go.Op.nilCheck (Go.Operand.tmp 68), type := 0, pos := "diary.go:102", after := #[{ on := 7, ground := Go.Ground.data }], guard := none }) (v := .pointer (some ⟨db, 0, none⟩)) rfl (by kernel_rfl) (by kernel_rfl) (by kernel_rfl) (fun _ _ _ h => h) (Or.inl ⟨by rfl, fun w hS => by first | rfl | go_simp⟩) hH ?_
      simp only [Act.put, List.setIfInBounds_toArray, List.set_cons_zero, List.set_cons_succ]
      refine wpAnyH_take (i := 9) (oi := { dst := some 70, op := Go.Op.fieldAddr 89 (Go.Operand.tmp 69) 1, type := 0, pos := "diary.go:102", after := #[{ on := 8, ground := Go.Ground.data }], guard := none }) (v := .pointer (some ⟨db, 1, none⟩)) rfl (by kernel_rfl) (by kernel_rfl) (by kernel_rfl) (fun _ _ _ h => h) (Or.inl ⟨by rfl, fun w hS => by first | rfl | go_simp⟩) hH ?_
      simp only [Act.put, List.setIfInBounds_toArray, List.set_cons_zero, List.set_cons_succ]
      refine wpAnyH_take (i := 10) (oi := { dst := some 71, op := Go.Op.load 55 (Go.Operand.tmp 70), type := 55, pos := "diary.go:102", after := #[{ on := 9, ground := Go.Ground.data }], guard := none }) (v := .int .u32 gen) rfl (by kernel_rfl) (by kernel_rfl) (by kernel_rfl) (fun _ _ _ h => h) (Or.inl ⟨by rfl, fun w hS => by have h1 := hS.cell 1; go_simp⟩) hH ?_
      simp only [Act.put, List.setIfInBounds_toArray, List.set_cons_zero, List.set_cons_succ]
      refine wpAnyH_take (i := 11) (oi := { dst := some 72, op := Go.Op.move (Go.Operand.tmp 0), type := 52, pos := "diary.go:102", after := #[], guard := none }) (v := .pointer (some ⟨db, 0, none⟩)) rfl (by kernel_rfl) (by kernel_rfl) (by kernel_rfl) (fun _ _ _ h => h) (Or.inl ⟨by rfl, fun w hS => by first | rfl | go_simp⟩) hH ?_
      simp only [Act.put, List.setIfInBounds_toArray, List.set_cons_zero, List.set_cons_succ]
      refine wpAnyH_take (i := 12) (oi := { dst := some 73, op := Go.Op.nilCheck (Go.Operand.tmp 72), type := 0, pos := "diary.go:102", after := #[{ on := 11, ground := Go.Ground.data }], guard := none }) (v := .pointer (some ⟨db, 0, none⟩)) rfl (by kernel_rfl) (by kernel_rfl) (by kernel_rfl) (fun _ _ _ h => h) (Or.inl ⟨by rfl, fun w hS => by first | rfl | go_simp⟩) hH ?_
      simp only [Act.put, List.setIfInBounds_toArray, List.set_cons_zero, List.set_cons_succ]
      refine wpAnyH_take (i := 13) (oi := { dst := some 74, op := Go.Op.fieldAddr 89 (Go.Operand.tmp 73) 2, type := 0, pos := "diary.go:102", after := #[{ on := 12, ground := Go.Ground.data }], guard := none }) (v := .pointer (some ⟨db, 2, none⟩)) rfl (by kernel_rfl) (by kernel_rfl) (by kernel_rfl) (fun _ _ _ h => h) (Or.inl ⟨by rfl, fun w hS => by first | rfl | go_simp⟩) hH ?_
      simp only [Act.put, List.setIfInBounds_toArray, List.set_cons_zero, List.set_cons_succ]
      refine wpAnyH_take (i := 14) (oi := { dst := some 75, op := Go.Op.load 3 (Go.Operand.tmp 74), type := 3, pos := "diary.go:102", after := #[{ on := 13, ground := Go.Ground.data }], guard := none }) (v := .int .i64 0) rfl (by kernel_rfl) (by kernel_rfl) (by kernel_rfl) (fun _ _ _ h => h) (Or.inl ⟨by rfl, fun w hS => by have h1 := hS.cell 2; go_simp⟩) hH ?_
      simp only [Act.put, List.setIfInBounds_toArray, List.set_cons_zero, List.set_cons_succ]
      refine wpAnyH_take (i := 15) (oi := { dst := some 76, op := Go.Op.move (Go.Operand.tmp 9), type := 3, pos := "diary.go:102", after := #[], guard := none }) (v := .int .i64 0) rfl (by kernel_rfl) (by kernel_rfl) (by kernel_rfl) (fun _ _ _ h => h) (Or.inl ⟨by rfl, fun w hS => by first | rfl | go_simp⟩) hH ?_
      simp only [Act.put, List.setIfInBounds_toArray, List.set_cons_zero, List.set_cons_succ]
      refine wpAnyH_take (i := 16) (oi := { dst := some 77, op := Go.Op.binOp Go.BinOp.add 3 (Go.Operand.tmp 75) (Go.Operand.tmp 76) 3, type := 3, pos := "diary.go:102", after := #[{ on := 14, ground := Go.Ground.data }, { on := 15, ground := Go.Ground.data }], guard := none }) (v := .int .i64 0) rfl (by kernel_rfl) (by kernel_rfl) (by kernel_rfl) (fun _ _ _ h => h) (Or.inl ⟨by rfl, fun w hS => by first | rfl | go_simp⟩) hH ?_
      simp only [Act.put, List.setIfInBounds_toArray, List.set_cons_zero, List.set_cons_succ]
      refine wpAnyH_take (i := 17) (oi := { dst := some 78, op := Go.Op.move (Go.Operand.tmp 10), type := 5, pos := "diary.go:102", after := #[], guard := none }) (v := .int .u8 7) rfl (by kernel_rfl) (by kernel_rfl) (by kernel_rfl) (fun _ _ _ h => h) (Or.inl ⟨by rfl, fun w hS => by first | rfl | go_simp⟩) hH ?_
      simp only [Act.put, List.setIfInBounds_toArray, List.set_cons_zero, List.set_cons_succ]
      refine wpAnyH_take (i := 18) (oi := { dst := some 79, op := Go.Op.move (Go.Operand.tmp 11), type := 47, pos := "diary.go:102", after := #[], guard := none }) (v := .slice none 0 0) rfl (by kernel_rfl) (by kernel_rfl) (by kernel_rfl) (fun _ _ _ h => h) (Or.inl ⟨by rfl, fun w hS => by first | rfl | go_simp⟩) hH ?_
      simp only [Act.put, List.setIfInBounds_toArray, List.set_cons_zero, List.set_cons_succ]
      refine wpAnyH_ready (rs := [19]) (by kernel_rfl) (by simp) ?_
      refine AllReadyH.cons (o := { dst := some 80, op := Go.Op.call { callee := Go.Callee.value (Go.Operand.func 57), args := #[Go.Operand.tmp 71, Go.Operand.tmp 77, Go.Operand.tmp 78, Go.Operand.tmp 79], argTypes := #[55, 3, 5, 47] }, type := 35, pos := "diary.go:102", after := #[{ on := 10, ground := Go.Ground.data }, { on := 16, ground := Go.Ground.data }, { on := 17, ground := Go.Ground.data }, { on := 18, ground := Go.Ground.data }], guard := none }) rfl (fun K hK => ?_) AllReadyH.nil
      go_simp
      refine (seal_any gen 0 7 [] none 0 _ HG.out (by decide) (by decide) (by decide) (fun x hx => by cases hx) (fun h => by cases h)).mono ?_
      rintro r w5 ⟨rfl, hb5⟩
      have HB5 : Kp (Below wr.heap.size wr w5) := ⟨(show Below wr.heap.size wr wr.drew from ⟨rfl, rfl, rfl, Nat.le_refl _, fun _ _ => rfl⟩).trans hb5⟩
      have HD5 := Kp.mk (HD.out.keep HB5.out)
      have HT5 : Kp (SlStep g v v1 s1 w w5) := ⟨HT.out.trans (SlStep.same HD.out.is HB5.out)⟩
      clear hb5
      refine hK.out _ _ (HD5.out.b) (fun hHn => ?_)
      clear hK K hH
      have hH := hHn
      clear hHn
      try simp only [Act.put, List.setIfInBounds_toArray, List.set_cons_zero, List.set_cons_succ]
      refine wpAnyH_ready (rs := [20]) (by kernel_rfl) (by simp) ?_
      refine AllReadyH.cons (o := { dst := some 81, op := Go.Op.call { callee := Go.Callee.value (Go.Operand.func 56), args := #[Go.Operand.tmp 61, Go.Operand.tmp 67, Go.Operand.tmp 80], argTypes := #[52, 3, 35] }, type := 24, pos := "diary.go:102", after := #[{ on := 0, ground := Go.Ground.data }, { on := 6, ground := Go.Ground.data }, { on := 19, ground := Go.Ground.data }, { on := 19, ground := Go.Ground.chain }], guard := none }) rfl (fun K hK => ?_) AllReadyH.nil
      go_simp
      refine (dwrite_any db g v1 s1 gen 0 0 (sealZ gen 0 7 []) _ HD5.out (by decide) (sealZ_len (by decide)) (sealZ_b (by decide) (by decide) (fun x hx => by cases hx)) HST.out HQL.out).mono ?_
      rintro r w6 ⟨v2, rfl, h6⟩
      rw [Nat.add_zero] at h6
      rw [Nat.add_zero, HWE.out]
      have HD6 := Kp.mk (HD5.out.step h6)
      have HT6 := Kp.mk (HT5.out.trans h6)
      clear h6
      refine hK.out _ _ (HD6.out.b) (fun hHn => ?_)
      clear hK K hH
      have hH := hHn
      clear hHn
      try simp only [Act.put, List.setIfInBounds_toArray, List.set_cons_zero, List.set_cons_succ]
      refine wpAnyH_take (i := 21) (oi := { dst := some 12, op := Go.Op.assign (Go.Operand.tmp 81), type := 24, pos := "diary.go:102", after := #[{ on := 20, ground := Go.Ground.data }, { on := 20, ground := Go.Ground.chain }, { on := 0, ground := Go.Ground.phase }, { on := 1, ground := Go.Ground.phase }, { on := 2, ground := Go.Ground.phase }, { on := 3, ground := Go.Ground.phase }, { on := 4, ground := Go.Ground.phase }, { on := 5, ground := Go.Ground.phase }, { on := 6, ground := Go.Ground.phase }, { on := 7, ground := Go.Ground.phase }, { on := 8, ground := Go.Ground.phase }, { on := 9, ground := Go.Ground.phase }, { on := 10, ground := Go.Ground.phase }, { on := 11, ground := Go.Ground.phase }, { on := 12, ground := Go.Ground.phase }, { on := 13, ground := Go.Ground.phase }, { on := 14, ground := Go.Ground.phase }, { on := 15, ground := Go.Ground.phase }, { on := 16, ground := Go.Ground.phase }, { on := 17, ground := Go.Ground.phase }, { on := 18, ground := Go.Ground.phase }, { on := 19, ground := Go.Ground.phase }, { on := 20, ground := Go.Ground.phase }], guard := none }) (v := .int .i64 0) rfl (by kernel_rfl) (by kernel_rfl) (by kernel_rfl) (fun _ _ _ h => h) (Or.inl ⟨by rfl, fun w hS => by first | rfl | go_simp⟩) hH ?_
      simp only [Act.put, List.setIfInBounds_toArray, List.set_cons_zero, List.set_cons_succ]
      clear hH
      refine wpAnyH_done (by kernel_rfl) ?_ _
      go_wp2_with fail
      go_roundw
      case rel => exact .inr ⟨rfl, v2, HD6.out, HT6.out⟩
      case measure => simp [intOf]
    · have HDe := Kp.mk hd
      have HTe := Kp.mk ht
      have c2 : wr.cell? ⟨db, 2, none⟩ = some (.int .i64 0) := hd.b.cell 2
      have f2 := Blk.frozen hd.b 2
      clear hd ht
      go_wp2_with fail
      go_ret
      exact ⟨v2, wr, rfl, HTe.out, rfl⟩
theorem start_nil (gen : Int) (w : World) : Calls Try.prog 24 #[.pointer none, .int .u32 gen, .slice none 0 0] w fun r w' => r = .returned (.tuple #[.pointer none, .int .i64 2]) ∧ w = w' := by
  go_enter Try.func24, Try.ntmps24
  go_wp2_with fail
  refine (check_nil _).mono ?_
  rintro r w1 ⟨rfl, rfl⟩
  go_wp2_with fail
  go_ret2
  exact ⟨rfl, rfl⟩
theorem start_small (g : Nat) (v : Value) (s : SlS) (gen : Int) (w : World) (h : SlIs w g v s) (hn : s.n < 2) : Calls Try.prog 24 #[slP g, .int .u32 gen, .slice none 0 0] w fun r w' => r = .returned (.tuple #[.pointer none, .int .i64 1]) ∧ w = w' := by
  have H := Kp.mk h
  have HN := Kp.mk hn
  clear h hn
  go_enter Try.func24, Try.ntmps24
  go_wp2_with fail
  refine (check_any g v s _ H.out).mono ?_
  rintro r w1 ⟨rfl, rfl⟩
  rw [if_pos HN.out]
  go_wp2_with fail
  go_ret2
  exact ⟨rfl, rfl⟩
theorem load_nil (w : World) : Calls Try.prog 29 #[.pointer none] w fun r w' => r = .returned (.tuple #[.slice none 0 0, .int .u32 0, .int .i64 2]) ∧ w = w' := by
  go_enter Try.func29, Try.ntmps29
  go_wp2_with fail
  refine (check_nil _).mono ?_
  rintro r w1 ⟨rfl, rfl⟩
  go_wp2_with fail
  go_ret3
  exact ⟨rfl, rfl⟩
theorem load_small (g : Nat) (v : Value) (s : SlS) (w : World) (h : SlIs w g v s) (hn : s.n < 2) : Calls Try.prog 29 #[slP g] w fun r w' => r = .returned (.tuple #[.slice none 0 0, .int .u32 0, .int .i64 1]) ∧ w = w' := by
  have H := Kp.mk h
  have HN := Kp.mk hn
  clear h hn
  go_enter Try.func29, Try.ntmps29
  go_wp2_with fail
  refine (check_any g v s _ H.out).mono ?_
  rintro r w1 ⟨rfl, rfl⟩
  rw [if_pos HN.out]
  go_wp2_with fail
  go_ret3
  exact ⟨rfl, rfl⟩
set_option maxRecDepth 100000 in
set_option maxHeartbeats 4000000 in
theorem start_any (g : Nat) (v : Value) (s s1 s2 s3 : SlS) (gen : Int) (w : World) (h : SlIs w g v s) (hg : 1 ≤ gen ∧ gen ≤ 4294967295) (hn : 2 ≤ s.n) (hst : s.st ≤ 900000) (hq : s.q.length ≤ 900000)
    (hw : wipeR (s.n / 2) s gen 0 = (s1, 0)) (h1 : s1.st + 1 ≤ 1000000) (h2 : s1.q.length ≤ 1000000) (hwe : writeE s1 (begN s1.n gen : Nat) = 0) (e2 : s2 = writeS s1 (begN s1.n gen : Nat) (sealZ gen 0 7 [])) (h3 : s2.st + 1 ≤ 1000000) (h4 : s2.q.length ≤ 1000000) (hfe : flushE s2 = 0) (e3 : s3 = flushS s2) (hn3 : s3.n = s.n) (B : Nat) (hB : B ≤ g) :
    Calls Try.prog 24 #[slP g, .int .u32 gen, .slice none 0 0] w fun r w' => ∃ db v', r = .returned (.tuple #[dP db, .int .i64 0]) ∧ DiIs w' db g v' s3 gen 1 ∧ Below B w w' := by
  have H := Kp.mk h
  have HG := Kp.mk hg
  have HN : Kp (¬ s.n < 2) := ⟨by omega⟩
  have HN2 := Kp.mk hn
  have HMK : Kp (∀ db w, DiIs w db g v s gen 0 → Calls Try.prog 48 #[dP db, .slice none 0 0, .int .u8 4] w fun r w' => ∃ v' w1, r = .returned (.int .i64 0) ∧ SlStep g v v' s2 w w1 ∧ w' = w1.setCell ⟨db, 2, none⟩ (.int .i64 1)) := ⟨fun db w hd => by rw [e2]; exact mark_any db g v s s1 gen w hd hn hst hq hw h1 h2 hwe⟩
  have HF : Kp (flushE s2 = 0 ∧ flushS s2 = s3 ∧ s2.st + 1 ≤ 1000000 ∧ s2.q.length ≤ 1000000) := ⟨hfe, e3.symm, h3, h4⟩
  have hg0 : ¬ gen = 0 := by omega
  have hg0' : (gen == 0) = false := by simp; omega
  have HBg := Kp.mk hB
  clear h hg hn hst hq hw h1 h2 hwe e2 h3 h4 hfe e3 hn3 hB
  go_enter Try.func24, Try.ntmps24
  go_wp2_with fail
  refine (check_any g v s _ H.out).mono ?_
  rintro r w1 ⟨rfl, rfl⟩
  rw [if_neg HN.out]
  go_wp2_with fail
  obtain ⟨db, hdb⟩ : ∃ db, db = w.heap.size := ⟨_, rfl⟩
  have HDBe := Kp.mk hdb
  have HD0 : Kp (DiIs (w.alloc (dObj g gen 0)) db g v s gen 0) := ⟨⟨Blk.newAt _ HDBe.out, H.out.alloc _, ⟨by have := HG.out; omega, HG.out.2⟩, by decide⟩⟩
  have HB0 : Kp (Below w.heap.size w (w.alloc (dObj g gen 0))) := ⟨more (Below.refl _ _) _⟩
  rw [← hdb]
  clear hdb
  obtain ⟨W0, hW0⟩ : ∃ W0, W0 = w.alloc (dObj g gen 0) := ⟨_, rfl⟩
  have HWe := Kp.mk hW0
  rw [← hW0] at HD0 HB0
  clear hW0
  go_loopw [28] (fun i wr => i = .int .i64 0 ∧ wr = W0) (fun _ _ => 0)
  case atStart => exact ⟨rfl, HWe.out.symm⟩
  case round =>
    obtain ⟨rfl, hwr⟩ := hrel
    rw [hwr]
    clear hwr
    go_wp2_with fail
    refine (HMK.out db W0 HD0.out).mono ?_
    rintro r w2 ⟨v1, w1, rfl, hs1, rfl⟩
    have HD1 := Kp.mk (HD0.out.step hs1)
    have HS1 := Kp.mk hs1
    have HD2 : Kp (DiIs (w1.setCell ⟨db, 2, none⟩ (.int .i64 1)) db g v1 s2 gen 1) := ⟨by
      have hT : Turn db (dObj g gen 1) w1 (w1.setCell ⟨db, 2, none⟩ (.int .i64 1)) := ((Turn.same HD1.out.b).set 2 _).as rfl
      have n1 := cells_ne (show w1.heap[g]? = _ from HD1.out.is.r) (show w1.heap[db]? = _ from HD1.out.b) (by decide)
      have n2 := cells_ne (show w1.heap[g + 1]? = _ from HD1.out.is.b) (show w1.heap[db]? = _ from HD1.out.b) (by decide)
      refine ⟨hT.blk, ⟨hT.keep HD1.out.is.b n2, hT.keep HD1.out.is.r n1, ownsRow_same HD1.out.is.o fun k hk => ?_, HD1.out.is.k⟩, HD1.out.gr, by decide⟩
      obtain ⟨cur, e⟩ := ownsRow_type HD1.out.is.o hk
      exact hT.other k (Array.getElem?_eq_some_iff.1 e).1 (cells_ne e (show w1.heap[db]? = _ from HD1.out.b) (by decide))⟩
    have HBL : Kp (Below B w (w1.setCell ⟨db, 2, none⟩ (.int .i64 1))) := ⟨by
      have hlt := H.out.lt
      have hb := HBg.out
      have b1 : Below B W0 w1 := HS1.out.below hb (by have := HB0.out.size; omega) (fun k hk => by have := (HD0.out.is.o.lt k hk).1; omega)
      exact ((HB0.out.mono (by omega)).trans b1).setCell (p := ⟨db, 2, none⟩) (by rw [HDBe.out]; show B ≤ w.heap.size; omega) _⟩
    clear hs1
    generalize (w1.setCell ⟨db, 2, none⟩ (.int .i64 1)) = W2 at HD2 HBL ⊢
    go_wp2_with fail
    refine (dflush_any db g v1 s2 gen 1 _ HD2.out HF.out.2.2.1 HF.out.2.2.2).mono ?_
    rintro r w3 ⟨v2, rfl, hs3⟩
    rw [HF.out.1]
    rw [HF.out.2.1] at hs3
    have HD3 := Kp.mk (HD2.out.step hs3)
    have HB3 : Kp (Below B w w3) := ⟨HBL.out.trans (hs3.below HBg.out (by have := HD2.out.is.lt; have := HBg.out; omega) (fun k hk => by have := (HD2.out.is.o.lt k hk).1; have := HBg.out; omega))⟩
    clear hs3
    go_wp2_with fail
    go_ret2
    exact ⟨db, v2, rfl, HD3.out, HB3.out⟩
/-- The example's device: eight sectors, a generation begun. -/
def e1S : SlS := newS 8
def e2S : SlS := writeS e1S 4 (sealZ 1 0 7 [])
def e3S : SlS := flushS e2S
set_option maxRecDepth 100000 in
theorem ex_wipe : wipeR 4 e1S 1 0 = (e1S, 0) := by
  have h : ∀ k, k < 4 → hasE e1S ((begN e1S.n 1 + k : Nat) : Int) = 0 ∧ toldV (readZ e1S ((begN e1S.n 1 + k : Nat) : Int)) ≠ 1 ∧ endV (readZ e1S ((begN e1S.n 1 + k : Nat) : Int)) ≠ 1 := by decide +kernel
  rw [wipeR_next (h 0 (by decide)).1 (fun e => (h 0 (by decide)).2.1 e.2) (h 0 (by decide)).2.2, wipeR_next (h 1 (by decide)).1 (fun e => (h 1 (by decide)).2.1 e.2) (h 1 (by decide)).2.2, wipeR_next (h 2 (by decide)).1 (fun e => (h 2 (by decide)).2.1 e.2) (h 2 (by decide)).2.2, wipeR_next (h 3 (by decide)).1 (fun e => (h 3 (by decide)).2.1 e.2) (h 3 (by decide)).2.2]
  rfl
theorem ex_write : writeE e1S (begN e1S.n 1 : Nat) = 0 := by decide +kernel
theorem ex_flush : flushE e2S = 0 := by decide +kernel
theorem ex_read : hasE e3S 4 = 0 ∧ (readZ e3S 4)[3]? = some 1 ∧ (readZ e3S 4)[6]? = some 7 := by decide +kernel
theorem ex_len : e2S.st + 1 ≤ 1000000 ∧ e2S.q.length ≤ 1000000 ∧ e3S.q.length ≤ 1000000 ∧ e3S.n = 8 := by decide +kernel
end Go.Proofs.Ytgikedbnnlckjaa
