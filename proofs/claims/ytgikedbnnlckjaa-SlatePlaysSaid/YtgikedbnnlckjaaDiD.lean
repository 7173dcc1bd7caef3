/-
  layer 15: a diary, its Free, Flush and write.
-/
import Derived.Test.YtgikedbnnlckjaaDiC
import Derived.Test.YtgikedbnnlckjaaSlR
import Derived.IntWalk
namespace Go.Proofs.Ytgikedbnnlckjaa
open Go.RowKit

abbrev dObj (g : Nat) (gen : Int) (nx : Nat) : Obj := .cells #[slP g, .int .u32 gen, .int .i64 nx] 89
abbrev dP (db : Nat) : Value := .pointer (some ⟨db, 0, none⟩)
/-- A diary in block db, on the device in g. -/
structure DiIs (w : World) (db g : Nat) (v : Value) (s : SlS) (gen : Int) (nx : Nat) : Prop where
  b : Blk w db (dObj g gen nx)
  is : SlIs w g v s
  gr : 0 ≤ gen ∧ gen ≤ 4294967295
  nr : nx ≤ 4096
theorem DiIs.keep {w w' : World} {db g : Nat} {v : Value} {s : SlS} {gen : Int} {nx : Nat} (h : DiIs w db g v s gen nx) (hb : Below w.heap.size w w') : DiIs w' db g v s gen nx := ⟨h.b.keep hb, h.is.keep hb, h.gr, h.nr⟩
theorem DiIs.step {w w' : World} {db g : Nat} {v v' : Value} {s s' : SlS} {gen : Int} {nx : Nat} (h : DiIs w db g v s gen nx) (hs : SlStep g v v' s' w w') : DiIs w' db g v' s' gen nx :=
  ⟨(hs.obj h.is h.b (by decide) (by decide) (by decide)).trans h.b, hs.is, h.gr, h.nr⟩
theorem DiIs.drew {w : World} {db g : Nat} {v : Value} {s : SlS} {gen : Int} {nx : Nat} (h : DiIs w db g v s gen nx) : DiIs w.drew db g v s gen nx := ⟨h.b.draw, h.is.drew, h.gr, h.nr⟩
/-- A row that is new lies outside of a device. -/
theorem SlStep.rowX {g C : Nat} {v v' : Value} {s s' : SlS} {w w' : World} {l : List Int} (h : SlStep g v v' s' w w') (hs : SlIs w g v s) (hC : C ≠ g ∧ v.ownBlock ≠ some C) (hr : Row w C 35 .u8 l) : w'.heap[C]? = w.heap[C]? :=
  h.other C hr.lt hC.1 (cells_ne (show w.heap[C]? = _ from hr) (show w.heap[g + 1]? = _ from hs.b) (by decide)) hC.2
set_option maxRecDepth 100000 in
set_option maxHeartbeats 1000000 in
theorem free_any (db g : Nat) (v : Value) (s : SlS) (gen : Int) (nx : Nat) (w : World) (h : DiIs w db g v s gen nx) : Calls Try.prog 32 #[dP db] w fun r w' => r = .returned (.int .i64 (((s.n / 2 : Nat) : Int) - nx)) ∧ Below w.heap.size w w' := by
  have H := Kp.mk h
  obtain ⟨m, hm⟩ : ∃ m, m = s.n / 2 := ⟨_, rfl⟩
  have HM := Kp.mk hm
  have HB : Kp ((m : Int) - nx ≤ 9223372036854775807 ∧ -9223372036854775808 ≤ (m : Int) - nx) := ⟨by have := h.nr; have := h.is.k.n1; omega⟩
  rw [← hm]
  clear hm h
  go_enter Try.func32, Try.ntmps32
  go_wp2_with fail
  refine wp_region_held_drew (S := fun w' => Blk w' db (dObj g gen nx)) (by kernel_rfl) (H.out.b.draw) (fun hH => ?_)
  refine wpAnyH_take (i := 0) (oi := { dst := some 5, op := Go.Op.move (Go.Operand.tmp 0), type := 52, pos := "diary.go:76", after := #[], guard := none }) (v := .pointer (some ⟨db, 0, none⟩)) rfl (by kernel_rfl) (by kernel_rfl) (by kernel_rfl) (fun _ _ _ h => h) (Or.inl ⟨by rfl, fun w hS => by first | rfl | go_simp⟩) hH ?_
  simp only [Act.put, List.setIfInBounds_toArray, List.set_cons_zero, List.set_cons_succ]
  refine wpAnyH_take (i := 1) (oi := { dst := some 6, op := Go.Op.nilCheck (Go.Operand.tmp 5), type := 0, pos := "diary.go:76", after := #[{ on := 0, ground := Go.Ground.data }], guard := none }) (v := .pointer (some ⟨db, 0, none⟩)) rfl (by kernel_rfl) (by kernel_rfl) (by kernel_rfl) (fun _ _ _ h => h) (Or.inl ⟨by rfl, fun w hS => by first | rfl | go_simp⟩) hH ?_
  simp only [Act.put, List.setIfInBounds_toArray, List.set_cons_zero, List.set_cons_succ]
  refine wpAnyH_take (i := 2) (oi := { dst := some 7, op := Go.Op.fieldAddr 89 (Go.Operand.tmp 6) 0, type := 0, pos := "diary.go:76", after := #[{ on := 1, ground := Go.Ground.data }], guard := none }) (v := .pointer (some ⟨db, 0, none⟩)) rfl (by kernel_rfl) (by kernel_rfl) (by kernel_rfl) (fun _ _ _ h => h) (Or.inl ⟨by rfl, fun w hS => by first | rfl | go_simp⟩) hH ?_
  simp only [Act.put, List.setIfInBounds_toArray, List.set_cons_zero, List.set_cons_succ]
  refine wpAnyH_take (i := 3) (oi := { dst := some 8, op := Go.Op.load 23 (Go.Operand.tmp 7), type := 23, pos := "diary.go:76", after := #[{ on := 2, ground := Go.Ground.data }], guard := none }) (v := slP g) rfl (by kernel_rfl) (by kernel_rfl) (by kernel_rfl) (fun _ _ _ h => h) (Or.inl ⟨by rfl, fun w hS => by have h1 := hS.cell 0; go_simp⟩) hH ?_
  simp only [Act.put, List.setIfInBounds_toArray, List.set_cons_zero, List.set_cons_succ]
  refine wpAnyH_take (i := 5) (oi := { dst := some 10, op := Go.Op.move (Go.Operand.tmp 0), type := 52, pos := "diary.go:76", after := #[], guard := none }) (v := .pointer (some ⟨db, 0, none⟩)) rfl (by kernel_rfl) (by kernel_rfl) (by kernel_rfl) (fun _ _ _ h => h) (Or.inl ⟨by rfl, fun w hS => by first | rfl | go_simp⟩) hH ?_
  simp only [Act.put, List.setIfInBounds_toArray, List.set_cons_zero, List.set_cons_succ]
  refine wpAnyH_take (i := 6) (oi := { dst := some 11, op := Go.Op.nilCheck (Go.Operand.tmp 10), type := 0, pos := "diary.go:76", after := #[{ on := 5, ground := Go.Ground.data }], guard := none }) (v := .pointer (some ⟨db, 0, none⟩)) rfl (by kernel_rfl) (by kernel_rfl) (by kernel_rfl) (fun _ _ _ h => h) (Or.inl ⟨by rfl, fun w hS => by first | rfl | go_simp⟩) hH ?_
  simp only [Act.put, List.setIfInBounds_toArray, List.set_cons_zero, List.set_cons_succ]
  refine wpAnyH_take (i := 7) (oi := { dst := some 12, op := Go.Op.fieldAddr 89 (Go.Operand.tmp 11) 2, type := 0, pos := "diary.go:76", after := #[{ on := 6, ground := Go.Ground.data }], guard := none }) (v := .pointer (some ⟨db, 2, none⟩)) rfl (by kernel_rfl) (by kernel_rfl) (by kernel_rfl) (fun _ _ _ h => h) (Or.inl ⟨by rfl, fun w hS => by first | rfl | go_simp⟩) hH ?_
  simp only [Act.put, List.setIfInBounds_toArray, List.set_cons_zero, List.set_cons_succ]
  refine wpAnyH_take (i := 8) (oi := { dst := some 13, op := Go.Op.load 3 (Go.Operand.tmp 12), type := 3, pos := "diary.go:76", after := #[{ on := 7, ground := Go.Ground.data }], guard := none }) (v := .int .i64 (nx : Nat)) rfl (by kernel_rfl) (by kernel_rfl) (by kernel_rfl) (fun _ _ _ h => h) (Or.inl ⟨by rfl, fun w hS => by have h1 := hS.cell 2; go_simp⟩) hH ?_
  simp only [Act.put, List.setIfInBounds_toArray, List.set_cons_zero, List.set_cons_succ]
  refine wpAnyH_ready (rs := [4]) (by kernel_rfl) (by simp) ?_
  refine AllReadyH.cons (o := { dst := some 9, op := Go.Op.call { callee := Go.Callee.value (Go.Operand.func 51), args := #[Go.Operand.tmp 8], argTypes := #[23] }, type := 3, pos := "diary.go:76", after := #[{ on := 3, ground := Go.Ground.data }], guard := none }) rfl (fun K hK => ?_) AllReadyH.nil
  go_simp
  refine (size_any g v s _ H.out.is.drew).mono ?_
  rintro r w2 ⟨rfl, rfl⟩
  rw [← HM.out]
  refine hK.out _ _ (hH) (fun hHn => ?_)
  clear hK K hH
  have hH := hHn
  clear hHn
  try simp only [Act.put, List.setIfInBounds_toArray, List.set_cons_zero, List.set_cons_succ]
  refine wpAnyH_take (i := 9) (oi := { dst := some 14, op := Go.Op.binOp Go.BinOp.sub 3 (Go.Operand.tmp 9) (Go.Operand.tmp 13) 3, type := 3, pos := "diary.go:76", after := #[{ on := 4, ground := Go.Ground.data }, { on := 8, ground := Go.Ground.data }], guard := none }) (v := .int .i64 ((m : Int) - nx)) rfl (by kernel_rfl) (by kernel_rfl) (by kernel_rfl) (fun _ _ _ h => h) (Or.inl ⟨by rfl, fun w hS => by have h1 := IntWalk.i64_in ((m : Int) - nx) ⟨HB.out.2, HB.out.1⟩; go_simp⟩) hH ?_
  simp only [Act.put, List.setIfInBounds_toArray, List.set_cons_zero, List.set_cons_succ]
  refine wpAnyH_take (i := 10) (oi := { dst := some 2, op := Go.Op.assign (Go.Operand.tmp 14), type := 3, pos := "diary.go:76", after := #[{ on := 9, ground := Go.Ground.data }, { on := 4, ground := Go.Ground.chain }, { on := 0, ground := Go.Ground.phase }, { on := 1, ground := Go.Ground.phase }, { on := 2, ground := Go.Ground.phase }, { on := 3, ground := Go.Ground.phase }, { on := 4, ground := Go.Ground.phase }, { on := 5, ground := Go.Ground.phase }, { on := 6, ground := Go.Ground.phase }, { on := 7, ground := Go.Ground.phase }, { on := 8, ground := Go.Ground.phase }, { on := 9, ground := Go.Ground.phase }], guard := none }) (v := .int .i64 ((m : Int) - nx)) rfl (by kernel_rfl) (by kernel_rfl) (by kernel_rfl) (fun _ _ _ h => h) (Or.inl ⟨by rfl, fun w hS => by first | rfl | go_simp⟩) hH ?_
  simp only [Act.put, List.setIfInBounds_toArray, List.set_cons_zero, List.set_cons_succ]
  clear hH
  refine wpAnyH_done (by kernel_rfl) ?_ _
  go_wp2_with fail
  go_ret
  exact ⟨rfl, ⟨rfl, rfl, rfl, Nat.le_refl _, fun _ _ => rfl⟩⟩
theorem free_nil (w : World) : Calls Try.prog 32 #[.pointer none] w fun r w' => r = .returned (.int .i64 0) ∧ w = w' := by
  go_enter Try.func32, Try.ntmps32
  go_wp2_with fail
  go_ret
  exact ⟨rfl, rfl⟩
theorem dflush_nil (w : World) : Calls Try.prog 28 #[.pointer none] w fun r w' => r = .returned (.int .i64 2) ∧ w = w' := by
  go_enter Try.func28, Try.ntmps28
  go_wp2_with fail
  go_ret
  exact ⟨rfl, rfl⟩
theorem gen_nil (w : World) : Calls Try.prog 34 #[.pointer none] w fun r w' => r = .returned (.int .u32 0) ∧ w = w' := by
  go_enter Try.func34, Try.ntmps34
  go_wp2_with fail
  go_ret
  exact ⟨rfl, rfl⟩
theorem append_nil (a : Option Addr) (n c : Nat) (w : World) : Calls Try.prog 27 #[.pointer none, .slice a n c] w fun r w' => r = .returned (.int .i64 2) ∧ w = w' := by
  go_enter Try.func27, Try.ntmps27
  go_wp2_with fail
  go_ret
  exact ⟨rfl, rfl⟩
theorem dflush_any (db g : Nat) (v : Value) (s : SlS) (gen : Int) (nx : Nat) (w : World) (h : DiIs w db g v s gen nx) (hst : s.st + 1 ≤ 1000000) (hq : s.q.length ≤ 1000000) :
    Calls Try.prog 28 #[dP db] w fun r w' => ∃ v', r = .returned (.int .i64 (flushE s)) ∧ SlStep g v v' (flushS s) w w' := by
  have H := Kp.mk h
  have HST := Kp.mk hst
  have HQ := Kp.mk hq
  have c0 := h.b.cell 0
  have c0' : w.cell? ⟨db, 0, none⟩ = some (slP g) := c0
  clear h hst hq c0
  go_enter Try.func28, Try.ntmps28
  go_wp2_with fail
  refine (flush_any g v s _ H.out.is HST.out HQ.out).mono ?_
  rintro r w2 ⟨v', rfl, h2⟩
  have H2 := Kp.mk h2
  clear h2
  go_wp2_with fail
  go_ret
  exact ⟨v', rfl, H2.out⟩
set_option maxRecDepth 100000 in
set_option maxHeartbeats 1000000 in
theorem dwrite_any (db g : Nat) (v : Value) (s : SlS) (gen : Int) (nx p : Nat) (z : List Int) (w : World) (h : DiIs w db g v s gen nx) (hp : p ≤ 4096) (hz : z.length = 64) (hzb : Bytes z) (hst : s.st + 1 ≤ 1000000) (hq : s.q.length ≤ 1000000) :
    Calls Try.prog 56 #[dP db, .int .i64 p, sec z] w fun r w' => ∃ v', r = .returned (.int .i64 (writeE s ((begN s.n gen + p : Nat) : Int))) ∧ SlStep g v v' (writeS s ((begN s.n gen + p : Nat) : Int) z) w w' := by
  have H := Kp.mk h
  have HZl := Kp.mk hz
  have HZb := Kp.mk hzb
  have HST := Kp.mk hst
  have HQL := Kp.mk hq
  have hC := fun (w : World) => box_row (t := 35) (cs := kv .u8 z) (cells35 hz) w
  obtain ⟨bg, hbg⟩ : ∃ bg, bg = begN s.n gen := ⟨_, rfl⟩
  have HBG : Kp (bg = begN s.n gen) := ⟨hbg⟩
  have HPB : Kp (0 ≤ (bg : Int) ∧ (bg : Int) ≤ 4096 ∧ (p : Int) ≤ 4096) := ⟨by
    have := h.is.k.n1
    refine ⟨by omega, ?_, by omega⟩
    rw [hbg]
    unfold begN
    have e : (gen % 2).toNat = 0 ∨ (gen % 2).toNat = 1 := by omega
    rcases e with e | e <;> rw [e] <;> omega⟩
  rw [← hbg]
  obtain ⟨C, hCe⟩ : ∃ C, C = w.heap.size := ⟨_, rfl⟩
  have HCe := Kp.mk hCe
  have HXN : Kp (C ≠ g ∧ v.ownBlock ≠ some C) := ⟨by
    have h1 := h.is.lt
    refine ⟨by omega, fun e => ?_⟩
    have := (h.is.o.lt C e).2
    omega⟩
  clear hz hzb hst hq hbg h hp
  go_enter Try.func56, Try.ntmps56
  go_wp2_with (refine wpList_box_eq rfl 35 (.tmp 2) rfl _ rfl _ _ (hC _) ?_; rw [← hCe]; refine wpl_world (fun w2 => Row w2 C 35 .u8 z ∧ Below w.heap.size w w2) ⟨Blk.newAt _ HCe.out, more (Below.refl _ _) _⟩ ?_; rintro W2 ⟨h1, h2⟩; have HC := Kp.mk h1; have K2 := Kp.mk h2; have HD := Kp.mk (H.out.keep h2); clear h1 h2 hCe hC)
  refine wp_region_held_drew (S := fun w' => Blk w' db (dObj g gen nx) ∧ Row w' C 35 .u8 z) (by kernel_rfl) (⟨HD.out.b.draw, HC.out.drew⟩) (fun hH => ?_)
  refine wpAnyH_take (i := 0) (oi := { dst := some 7, op := Go.Op.move (Go.Operand.tmp 0), type := 52, pos := "diary.go:135", after := #[], guard := none }) (v := .pointer (some ⟨db, 0, none⟩)) rfl (by kernel_rfl) (by kernel_rfl) (by kernel_rfl) (fun _ _ _ h => h) (Or.inl ⟨by rfl, fun w hS => by first | rfl | go_simp⟩) hH ?_
  simp only [Act.put, List.setIfInBounds_toArray, List.set_cons_zero, List.set_cons_succ]
  refine wpAnyH_take (i := 1) (oi := { dst := some 8, op := Go.Op.nilCheck (Go.Operand.tmp 7), type := 0, pos := "diary.go:135", after := #[{ on := 0, ground := Go.Ground.data }], guard := none }) (v := .pointer (some ⟨db, 0, none⟩)) rfl (by kernel_rfl) (by kernel_rfl) (by kernel_rfl) (fun _ _ _ h => h) (Or.inl ⟨by rfl, fun w hS => by first | rfl | go_simp⟩) hH ?_
  simp only [Act.put, List.setIfInBounds_toArray, List.set_cons_zero, List.set_cons_succ]
  refine wpAnyH_take (i := 2) (oi := { dst := some 9, op := Go.Op.fieldAddr 89 (Go.Operand.tmp 8) 0, type := 0, pos := "diary.go:135", after := #[{ on := 1, ground := Go.Ground.data }], guard := none }) (v := .pointer (some ⟨db, 0, none⟩)) rfl (by kernel_rfl) (by kernel_rfl) (by kernel_rfl) (fun _ _ _ h => h) (Or.inl ⟨by rfl, fun w hS => by first | rfl | go_simp⟩) hH ?_
  simp only [Act.put, List.setIfInBounds_toArray, List.set_cons_zero, List.set_cons_succ]
  refine wpAnyH_take (i := 3) (oi := { dst := some 10, op := Go.Op.load 23 (Go.Operand.tmp 9), type := 23, pos := "diary.go:135", after := #[{ on := 2, ground := Go.Ground.data }], guard := none }) (v := slP g) rfl (by kernel_rfl) (by kernel_rfl) (by kernel_rfl) (fun _ _ _ h => h) (Or.inl ⟨by rfl, fun w hS => by have h1 := hS.1.cell 0; go_simp⟩) hH ?_
  simp only [Act.put, List.setIfInBounds_toArray, List.set_cons_zero, List.set_cons_succ]
  refine wpAnyH_take (i := 4) (oi := { dst := some 11, op := Go.Op.move (Go.Operand.tmp 0), type := 52, pos := "diary.go:135", after := #[], guard := none }) (v := .pointer (some ⟨db, 0, none⟩)) rfl (by kernel_rfl) (by kernel_rfl) (by kernel_rfl) (fun _ _ _ h => h) (Or.inl ⟨by rfl, fun w hS => by first | rfl | go_simp⟩) hH ?_
  simp only [Act.put, List.setIfInBounds_toArray, List.set_cons_zero, List.set_cons_succ]
  refine wpAnyH_take (i := 5) (oi := { dst := some 12, op := Go.Op.nilCheck (Go.Operand.tmp 11), type := 0, pos := "diary.go:135", after := #[{ on := 4, ground := Go.Ground.data }], guard := none }) (v := .pointer (some ⟨db, 0, none⟩)) rfl (by kernel_rfl) (by kernel_rfl) (by kernel_rfl) (fun _ _ _ h => h) (Or.inl ⟨by rfl, fun w hS => by first | rfl | go_simp⟩) hH ?_
  simp only [Act.put, List.setIfInBounds_toArray, List.set_cons_zero, List.set_cons_succ]
  refine wpAnyH_take (i := 6) (oi := { dst := some 13, op := Go.Op.fieldAddr 89 (Go.Operand.tmp 12) 0, type := 0, pos := "diary.go:135", after := #[{ on := 5, ground := Go.Ground.data }], guard := none }) (v := .pointer (some ⟨db, 0, none⟩)) rfl (by kernel_rfl) (by kernel_rfl) (by kernel_rfl) (fun _ _ _ h => h) (Or.inl ⟨by rfl, fun w hS => by first | rfl | go_simp⟩) hH ?_
  simp only [Act.put, List.setIfInBounds_toArray, List.set_cons_zero, List.set_cons_succ]
  refine wpAnyH_take (i := 7) (oi := { dst := some 14, op := Go.Op.load 23 (Go.Operand.tmp 13), type := 23, pos := "diary.go:135", after := #[{ on := 6, ground := Go.Ground.data }], guard := none }) (v := slP g) rfl (by kernel_rfl) (by kernel_rfl) (by kernel_rfl) (fun _ _ _ h => h) (Or.inl ⟨by rfl, fun w hS => by have h1 := hS.1.cell 0; go_simp⟩) hH ?_
  simp only [Act.put, List.setIfInBounds_toArray, List.set_cons_zero, List.set_cons_succ]
  refine wpAnyH_take (i := 8) (oi := { dst := some 15, op := Go.Op.move (Go.Operand.tmp 0), type := 52, pos := "diary.go:135", after := #[], guard := none }) (v := .pointer (some ⟨db, 0, none⟩)) rfl (by kernel_rfl) (by kernel_rfl) (by kernel_rfl) (fun _ _ _ h => h) (Or.inl ⟨by rfl, fun w hS => by first | rfl | go_simp⟩) hH ?_
  simp only [Act.put, List.setIfInBounds_toArray, List.set_cons_zero, List.set_cons_succ]
  refine wpAnyH_take (i := 9) (oi := { dst := some 16, op := Go.Op.nilCheck (Go.Operand.tmp 15), type := 0, pos := "diary.go:135", after := #[{ on := 8, ground := Go.Ground.data }], guard := none }) (v := .pointer (some ⟨db, 0, none⟩)) rfl (by kernel_rfl) (by kernel_rfl) (by kernel_rfl) (fun _ _ _ h => h) (Or.inl ⟨by rfl, fun w hS => by first | rfl | go_simp⟩) hH ?_
  simp only [Act.put, List.setIfInBounds_toArray, List.set_cons_zero, List.set_cons_succ]
  refine wpAnyH_take (i := 10) (oi := { dst := some 17, op := Go.Op.fieldAddr 89 (Go.Operand.tmp 16) 1, type := 0, pos := "diary.go:135", after := #[{ on := 9, ground := Go.Ground.data }], guard := none }) (v := .pointer (some ⟨db, 1, none⟩)) rfl (by kernel_rfl) (by kernel_rfl) (by kernel_rfl) (fun _ _ _ h => h) (Or.inl ⟨by rfl, fun w hS => by first | rfl | go_simp⟩) hH ?_
  simp only [Act.put, List.setIfInBounds_toArray, List.set_cons_zero, List.set_cons_succ]
  refine wpAnyH_take (i := 11) (oi := { dst := some 18, op := Go.Op.load 55 (Go.Operand.tmp 17), type := 55, pos := "diary.go:135", after := #[{ on := 10, ground := Go.Ground.data }], guard := none }) (v := .int .u32 gen) rfl (by kernel_rfl) (by kernel_rfl) (by kernel_rfl) (fun _ _ _ h => h) (Or.inl ⟨by rfl, fun w hS => by have h1 := hS.1.cell 1; go_simp⟩) hH ?_
  simp only [Act.put, List.setIfInBounds_toArray, List.set_cons_zero, List.set_cons_succ]
  refine wpAnyH_take (i := 13) (oi := { dst := some 20, op := Go.Op.move (Go.Operand.tmp 1), type := 3, pos := "diary.go:135", after := #[], guard := none }) (v := .int .i64 (p : Nat)) rfl (by kernel_rfl) (by kernel_rfl) (by kernel_rfl) (fun _ _ _ h => h) (Or.inl ⟨by rfl, fun w hS => by first | rfl | go_simp⟩) hH ?_
  simp only [Act.put, List.setIfInBounds_toArray, List.set_cons_zero, List.set_cons_succ]
  refine wpAnyH_take (i := 15) (oi := { dst := some 22, op := Go.Op.load 35 (Go.Operand.tmp 5), type := 35, pos := "diary.go:135", after := #[], guard := none }) (v := sec z) rfl (by kernel_rfl) (by kernel_rfl) (by kernel_rfl) (fun _ _ _ h => h) (Or.inl ⟨by rfl, fun w hS => exec_load_row rfl rfl hS.2 Try.underlying35 rfl (cells64 HZl.out)⟩) hH ?_
  simp only [Act.put, List.setIfInBounds_toArray, List.set_cons_zero, List.set_cons_succ]
  refine wpAnyH_ready (rs := [12]) (by kernel_rfl) (by simp) ?_
  refine AllReadyH.cons (o := { dst := some 19, op := Go.Op.call { callee := Go.Callee.value (Go.Operand.func 58), args := #[Go.Operand.tmp 14, Go.Operand.tmp 18], argTypes := #[23, 55] }, type := 3, pos := "diary.go:135", after := #[{ on := 7, ground := Go.Ground.data }, { on := 11, ground := Go.Ground.data }], guard := none }) rfl (fun K hK => ?_) AllReadyH.nil
  go_simp
  refine (begin_any g v s gen _ HD.out.is.drew HD.out.gr).mono ?_
  rintro r w2 ⟨rfl, rfl⟩
  rw [← HBG.out]
  refine hK.out _ _ (hH) (fun hHn => ?_)
  clear hK K hH
  have hH := hHn
  clear hHn
  try simp only [Act.put, List.setIfInBounds_toArray, List.set_cons_zero, List.set_cons_succ]
  refine wpAnyH_take (i := 14) (oi := { dst := some 21, op := Go.Op.binOp Go.BinOp.add 3 (Go.Operand.tmp 19) (Go.Operand.tmp 20) 3, type := 3, pos := "diary.go:135", after := #[{ on := 12, ground := Go.Ground.data }, { on := 13, ground := Go.Ground.data }], guard := none }) (v := .int .i64 (((bg + p : Nat) : Int))) rfl (by kernel_rfl) (by kernel_rfl) (by kernel_rfl) (fun _ _ _ h => h) (Or.inl ⟨by rfl, fun w hS => by have h1 := HPB.out; have h2 : ((bg + p : Nat) : Int) = (bg : Int) + p := (by omega); rw [h2]; have h3 := IntWalk.i64_in ((bg : Int) + p) (by omega); go_simp⟩) hH ?_
  simp only [Act.put, List.setIfInBounds_toArray, List.set_cons_zero, List.set_cons_succ]
  refine wpAnyH_ready (rs := [16]) (by kernel_rfl) (by simp) ?_
  refine AllReadyH.cons (o := { dst := some 23, op := Go.Op.call { callee := Go.Callee.value (Go.Operand.func 16), args := #[Go.Operand.tmp 10, Go.Operand.tmp 21, Go.Operand.tmp 22], argTypes := #[23, 3, 35] }, type := 24, pos := "diary.go:135", after := #[{ on := 3, ground := Go.Ground.data }, { on := 14, ground := Go.Ground.data }, { on := 15, ground := Go.Ground.data }, { on := 12, ground := Go.Ground.chain }], guard := none }) rfl (fun K hK => ?_) AllReadyH.nil
  go_simp
  refine (write_any g v s ((bg + p : Nat) : Int) z _ HD.out.is.drew HZl.out HZb.out HST.out HQL.out).mono ?_
  rintro r w2 ⟨v', rfl, h2⟩
  have HS2 := Kp.mk h2
  clear h2
  refine hK.out _ _ (⟨(HS2.out.obj HD.out.is.drew HD.out.b (by decide) (by decide) (by decide)).trans HD.out.b, (HS2.out.rowX HD.out.is.drew HXN.out HC.out).trans HC.out⟩) (fun hHn => ?_)
  clear hK K hH
  have hH := hHn
  clear hHn
  try simp only [Act.put, List.setIfInBounds_toArray, List.set_cons_zero, List.set_cons_succ]
  refine wpAnyH_take (i := 17) (oi := { dst := some 6, op := Go.Op.assign (Go.Operand.tmp 23), type := 24, pos := "diary.go:135", after := #[{ on := 16, ground := Go.Ground.data }, { on := 16, ground := Go.Ground.chain }, { on := 0, ground := Go.Ground.phase }, { on := 1, ground := Go.Ground.phase }, { on := 2, ground := Go.Ground.phase }, { on := 3, ground := Go.Ground.phase }, { on := 4, ground := Go.Ground.phase }, { on := 5, ground := Go.Ground.phase }, { on := 6, ground := Go.Ground.phase }, { on := 7, ground := Go.Ground.phase }, { on := 8, ground := Go.Ground.phase }, { on := 9, ground := Go.Ground.phase }, { on := 10, ground := Go.Ground.phase }, { on := 11, ground := Go.Ground.phase }, { on := 12, ground := Go.Ground.phase }, { on := 13, ground := Go.Ground.phase }, { on := 14, ground := Go.Ground.phase }, { on := 15, ground := Go.Ground.phase }, { on := 16, ground := Go.Ground.phase }], guard := none }) (v := .int .i64 (writeE s ((bg + p : Nat) : Int))) rfl (by kernel_rfl) (by kernel_rfl) (by kernel_rfl) (fun _ _ _ h => h) (Or.inl ⟨by rfl, fun w hS => by first | rfl | go_simp⟩) hH ?_
  simp only [Act.put, List.setIfInBounds_toArray, List.set_cons_zero, List.set_cons_succ]
  clear hH
  refine wpAnyH_done (by kernel_rfl) ?_ _
  have HF := Kp.mk (SlStep.trans (SlStep.same H.out.is (K2.out.trans (show Below w.heap.size W2 W2.drew from ⟨rfl, rfl, rfl, Nat.le_refl _, fun _ _ => rfl⟩))) HS2.out)
  go_wp2_with fail
  go_ret
  exact ⟨v', rfl, HF.out⟩
end Go.Proofs.Ytgikedbnnlckjaa
