/-
  The law SlatePlays, walked.
-/
import Derived.Test.YtgikedbnnlckjaaRsG
namespace Go.Proofs.Ytgikedbnnlckjaa
open Go.RowKit

set_option maxRecDepth 100000 in
set_option maxHeartbeats 8000000 in
theorem isL_any (B g M : Nat) (v v1 v2 : Value) (s : SlS) (r : RlS) (w : World) (h : Two B g M w w v v1 v2 s r) (hrel : Rel s r) (hq : s.q.length ≤ 1000000) :
    Calls Try.prog 13 #[slP g, rP M] w fun e w' => e = .returned (.bool true) ∧ Below w.heap.size w w' := by
  have H := Kp.mk h
  have HREL := Kp.mk hrel
  have HQL := Kp.mk hq
  obtain ⟨-, ⟨a, c, hv⟩⟩ := h.ir.slices
  obtain ⟨ln, hln⟩ : ∃ ln, ln = s.q.length := ⟨_, rfl⟩
  have HLN := Kp.mk hln
  have hlr : r.q.length = ln := by rw [hln, hrel.q]
  rw [hlr] at hv
  have HV := Kp.mk hv
  have c0 : w.cell? ⟨M, 0, none⟩ = some (.int .i64 s.n) := by rw [← hrel.n]; exact h.ir.cells.1.1
  have c2 : w.cell? ⟨M, 2, none⟩ = some (.slice a ln c) := by rw [← hv]; exact h.ir.cells.1.2.2.1
  have c4 : w.cell? ⟨M, 4, none⟩ = some (.bool s.dn) := by rw [← hrel.dn]; exact h.ir.cells.1.2.2.2.2.1
  have c5 : w.cell? ⟨M, 5, none⟩ = some (.int .i64 s.st) := by rw [← hrel.st]; exact h.ir.cells.1.2.2.2.2.2
  have hn4 := h.is.k.n1
  clear h hrel hq hv hln hlr
  go_enter Try.func13, Try.ntmps13
  go_wp2_with fail
  refine wp_region_held_drew (S := fun w' => w'.cell? ⟨M, 0, none⟩ = some (.int .i64 s.n) ∧ w'.cell? ⟨M, 2, none⟩ = some (.slice a ln c) ∧ w'.cell? ⟨M, 4, none⟩ = some (.bool s.dn) ∧ w'.cell? ⟨M, 5, none⟩ = some (.int .i64 s.st)) (by kernel_rfl) (⟨c0, c2, c4, c5⟩) (fun hH => ?_)
  refine wpAnyH_take (i := 0) (oi := { dst := some 10, op := Go.Op.move (Go.Operand.tmp 0), type := 23, pos := "law.go:53", after := #[], guard := none }) (v := slP g) rfl (by kernel_rfl) (by kernel_rfl) (by kernel_rfl) (fun _ _ _ h => h) (Or.inl ⟨by rfl, fun w hS => by first | rfl | go_simp⟩) hH ?_
  simp only [Act.put, List.setIfInBounds_toArray, List.set_cons_zero, List.set_cons_succ]
  refine wpAnyH_take (i := 2) (oi := { dst := some 12, op := Go.Op.move (Go.Operand.tmp 1), type := 28, pos := "law.go:53", after := #[], guard := none }) (v := rP M) rfl (by kernel_rfl) (by kernel_rfl) (by kernel_rfl) (fun _ _ _ h => h) (Or.inl ⟨by rfl, fun w hS => by first | rfl | go_simp⟩) hH ?_
  simp only [Act.put, List.setIfInBounds_toArray, List.set_cons_zero, List.set_cons_succ]
  refine wpAnyH_take (i := 3) (oi := { dst := some 13, op := Go.Op.nilCheck (Go.Operand.tmp 12), type := 0, pos := "law.go:53", after := #[{ on := 2, ground := Go.Ground.data }], guard := none }) (v := rP M) rfl (by kernel_rfl) (by kernel_rfl) (by kernel_rfl) (fun _ _ _ h => h) (Or.inl ⟨by rfl, fun w hS => by first | rfl | go_simp⟩) hH ?_
  simp only [Act.put, List.setIfInBounds_toArray, List.set_cons_zero, List.set_cons_succ]
  refine wpAnyH_take (i := 4) (oi := { dst := some 14, op := Go.Op.fieldAddr 75 (Go.Operand.tmp 13) 0, type := 0, pos := "law.go:53", after := #[{ on := 3, ground := Go.Ground.data }], guard := none }) (v := .pointer (some ⟨M, 0, none⟩)) rfl (by kernel_rfl) (by kernel_rfl) (by kernel_rfl) (fun _ _ _ h => h) (Or.inl ⟨by rfl, fun w hS => by first | rfl | go_simp⟩) hH ?_
  simp only [Act.put, List.setIfInBounds_toArray, List.set_cons_zero, List.set_cons_succ]
  refine wpAnyH_take (i := 5) (oi := { dst := some 15, op := Go.Op.load 3 (Go.Operand.tmp 14), type := 3, pos := "law.go:53", after := #[{ on := 4, ground := Go.Ground.data }], guard := none }) (v := .int .i64 s.n) rfl (by kernel_rfl) (by kernel_rfl) (by kernel_rfl) (fun _ _ _ h => h) (Or.inl ⟨by rfl, fun w hS => by have h1 := hS.1; go_simp⟩) hH ?_
  simp only [Act.put, List.setIfInBounds_toArray, List.set_cons_zero, List.set_cons_succ]
  refine wpAnyH_ready (rs := [1]) (by kernel_rfl) (by simp) ?_
  refine AllReadyH.cons (o := { dst := some 11, op := Go.Op.call { callee := Go.Callee.value (Go.Operand.func 20), args := #[Go.Operand.tmp 10], argTypes := #[23] }, type := 3, pos := "law.go:53", after := #[{ on := 0, ground := Go.Ground.data }], guard := none }) rfl (fun K hK => ?_) AllReadyH.nil
  go_simp
  refine (sectors_any g v s _ H.out.is.drew).mono ?_
  rintro q w2 ⟨rfl, rfl⟩
  refine hK.out _ _ (hH) (fun hHn => ?_)
  clear hK K hH
  have hH := hHn
  clear hHn
  try simp only [Act.put, List.setIfInBounds_toArray, List.set_cons_zero, List.set_cons_succ]
  refine wpAnyH_take (i := 6) (oi := { dst := some 16, op := Go.Op.binOp Go.BinOp.neq 3 (Go.Operand.tmp 11) (Go.Operand.tmp 15) 3, type := 4, pos := "law.go:53", after := #[{ on := 1, ground := Go.Ground.data }, { on := 5, ground := Go.Ground.data }], guard := none }) (v := .bool false) rfl (by kernel_rfl) (by kernel_rfl) (by kernel_rfl) (fun _ _ _ h => h) (Or.inl ⟨by rfl, fun w hS => by first | rfl | go_simp⟩) hH ?_
  simp only [Act.put, List.setIfInBounds_toArray, List.set_cons_zero, List.set_cons_succ]
  refine wpAnyH_take (i := 7) (oi := { dst := some 17, op := Go.Op.move (Go.Operand.tmp 16), type := 4, pos := "law.go:53", after := #[{ on := 6, ground := Go.Ground.data }, { on := 1, ground := Go.Ground.chain }], guard := none }) (v := .bool false) rfl (by kernel_rfl) (by kernel_rfl) (by kernel_rfl) (fun _ _ _ h => h) (Or.inl ⟨by rfl, fun w hS => by first | rfl | go_simp⟩) hH ?_
  simp only [Act.put, List.setIfInBounds_toArray, List.set_cons_zero, List.set_cons_succ]
  refine wpAnyH_take (i := 8) (oi := { dst := some 18, op := Go.Op.move (Go.Operand.tmp 0), type := 23, pos := "law.go:53", after := #[{ on := 7, ground := Go.Ground.guard }], guard := some (7, false) }) (v := slP g) rfl (by kernel_rfl) (by kernel_rfl) (by kernel_rfl) (fun _ _ _ h => h) (Or.inl ⟨by rfl, fun w hS => by first | rfl | go_simp⟩) hH ?_
  simp only [Act.put, List.setIfInBounds_toArray, List.set_cons_zero, List.set_cons_succ]
  refine wpAnyH_take (i := 10) (oi := { dst := some 20, op := Go.Op.move (Go.Operand.tmp 1), type := 28, pos := "law.go:53", after := #[{ on := 7, ground := Go.Ground.guard }], guard := some (7, false) }) (v := rP M) rfl (by kernel_rfl) (by kernel_rfl) (by kernel_rfl) (fun _ _ _ h => h) (Or.inl ⟨by rfl, fun w hS => by first | rfl | go_simp⟩) hH ?_
  simp only [Act.put, List.setIfInBounds_toArray, List.set_cons_zero, List.set_cons_succ]
  refine wpAnyH_take (i := 11) (oi := { dst := some 21, op := Go.Op.nilCheck (Go.Operand.tmp 20), type := 0, pos := "law.go:53", after := #[{ on := 10, ground := Go.Ground.data }, { on := 7, ground := Go.Ground.guard }], guard := some (7, false) }) (v := rP M) rfl (by kernel_rfl) (by kernel_rfl) (by kernel_rfl) (fun _ _ _ h => h) (Or.inl ⟨by rfl, fun w hS => by first | rfl | go_simp⟩) hH ?_
  simp only [Act.put, List.setIfInBounds_toArray, List.set_cons_zero, List.set_cons_succ]
  refine wpAnyH_take (i := 12) (oi := { dst := some 22, op := Go.Op.fieldAddr 75 (Go.Operand.tmp 21) 2, type := 0, pos := "law.go:53", after := #[{ on := 11, ground := Go.Ground.data }, { on := 7, ground := Go.Ground.guard }], guard := some (7, false) }) (v := .pointer (some ⟨M, 2, none⟩)) rfl (by kernel_rfl) (by kernel_rfl) (by kernel_rfl) (fun _ _ _ h => h) (Or.inl ⟨by rfl, fun w hS => by first | rfl | go_simp⟩) hH ?_
  simp only [Act.put, List.setIfInBounds_toArray, List.set_cons_zero, List.set_cons_succ]
  refine wpAnyH_take (i := 13) (oi := { dst := some 23, op := Go.Op.load 73 (Go.Operand.tmp 22), type := 73, pos := "law.go:53", after := #[{ on := 12, ground := Go.Ground.data }, { on := 7, ground := Go.Ground.guard }], guard := some (7, false) }) (v := .slice a ln c) rfl (by kernel_rfl) (by kernel_rfl) (by kernel_rfl) (fun _ _ _ h => h) (Or.inl ⟨by rfl, fun w hS => by have h1 := hS.2.1; go_simp⟩) hH ?_
  simp only [Act.put, List.setIfInBounds_toArray, List.set_cons_zero, List.set_cons_succ]
  refine wpAnyH_take (i := 14) (oi := { dst := some 24, op := Go.Op.call { callee := Go.Callee.builtin Go.Builtin.len, args := #[Go.Operand.tmp 23], argTypes := #[73] }, type := 3, pos := "law.go:53", after := #[{ on := 13, ground := Go.Ground.data }, { on := 7, ground := Go.Ground.guard }], guard := some (7, false) }) (v := .int .i64 ln) rfl (by kernel_rfl) (by kernel_rfl) (by kernel_rfl) (fun _ _ _ h => h) (Or.inl ⟨by rfl, fun w hS => by first | rfl | go_simp⟩) hH ?_
  simp only [Act.put, List.setIfInBounds_toArray, List.set_cons_zero, List.set_cons_succ]
  refine wpAnyH_ready (rs := [9]) (by kernel_rfl) (by simp) ?_
  refine AllReadyH.cons (o := { dst := some 19, op := Go.Op.call { callee := Go.Callee.value (Go.Operand.func 21), args := #[Go.Operand.tmp 18], argTypes := #[23] }, type := 3, pos := "law.go:53", after := #[{ on := 8, ground := Go.Ground.data }, { on := 7, ground := Go.Ground.chain }, { on := 7, ground := Go.Ground.guard }], guard := some (7, false) }) rfl (fun K hK => ?_) AllReadyH.nil
  go_simp
  refine (loose_any g v s _ H.out.is.drew).mono ?_
  rintro q w2 ⟨rfl, rfl⟩
  rw [← HLN.out]
  refine hK.out _ _ (hH) (fun hHn => ?_)
  clear hK K hH
  have hH := hHn
  clear hHn
  try simp only [Act.put, List.setIfInBounds_toArray, List.set_cons_zero, List.set_cons_succ]
  refine wpAnyH_take (i := 15) (oi := { dst := some 25, op := Go.Op.binOp Go.BinOp.neq 3 (Go.Operand.tmp 19) (Go.Operand.tmp 24) 3, type := 4, pos := "law.go:53", after := #[{ on := 9, ground := Go.Ground.data }, { on := 14, ground := Go.Ground.data }, { on := 7, ground := Go.Ground.guard }], guard := some (7, false) }) (v := .bool false) rfl (by kernel_rfl) (by kernel_rfl) (by kernel_rfl) (fun _ _ _ h => h) (Or.inl ⟨by rfl, fun w hS => by first | rfl | go_simp⟩) hH ?_
  simp only [Act.put, List.setIfInBounds_toArray, List.set_cons_zero, List.set_cons_succ]
  refine wpAnyH_take (i := 16) (oi := { dst := some 26, op := Go.Op.pick (Go.Operand.tmp 17) (Go.Operand.const (Go.Value.bool true)) (Go.Operand.tmp 25), type := 4, pos := "law.go:53", after := #[{ on := 7, ground := Go.Ground.data }, { on := 15, ground := Go.Ground.data }], guard := none }) (v := .bool false) rfl (by kernel_rfl) (by kernel_rfl) (by kernel_rfl) (fun _ _ _ h => h) (Or.inl ⟨by rfl, fun w hS => by first | rfl | go_simp⟩) hH ?_
  simp only [Act.put, List.setIfInBounds_toArray, List.set_cons_zero, List.set_cons_succ]
  refine wpAnyH_take (i := 17) (oi := { dst := some 27, op := Go.Op.move (Go.Operand.tmp 26), type := 4, pos := "law.go:53", after := #[{ on := 16, ground := Go.Ground.data }, { on := 9, ground := Go.Ground.chain }], guard := none }) (v := .bool false) rfl (by kernel_rfl) (by kernel_rfl) (by kernel_rfl) (fun _ _ _ h => h) (Or.inl ⟨by rfl, fun w hS => by first | rfl | go_simp⟩) hH ?_
  simp only [Act.put, List.setIfInBounds_toArray, List.set_cons_zero, List.set_cons_succ]
  refine wpAnyH_take (i := 18) (oi := { dst := some 28, op := Go.Op.move (Go.Operand.tmp 0), type := 23, pos := "law.go:53", after := #[{ on := 17, ground := Go.Ground.guard }], guard := some (17, false) }) (v := slP g) rfl (by kernel_rfl) (by kernel_rfl) (by kernel_rfl) (fun _ _ _ h => h) (Or.inl ⟨by rfl, fun w hS => by first | rfl | go_simp⟩) hH ?_
  simp only [Act.put, List.setIfInBounds_toArray, List.set_cons_zero, List.set_cons_succ]
  refine wpAnyH_take (i := 20) (oi := { dst := some 30, op := Go.Op.move (Go.Operand.tmp 1), type := 28, pos := "law.go:53", after := #[{ on := 17, ground := Go.Ground.guard }], guard := some (17, false) }) (v := rP M) rfl (by kernel_rfl) (by kernel_rfl) (by kernel_rfl) (fun _ _ _ h => h) (Or.inl ⟨by rfl, fun w hS => by first | rfl | go_simp⟩) hH ?_
  simp only [Act.put, List.setIfInBounds_toArray, List.set_cons_zero, List.set_cons_succ]
  refine wpAnyH_take (i := 21) (oi := { dst := some 31, op := Go.Op.nilCheck (Go.Operand.tmp 30), type := 0, pos := "law.go:53", after := #[{ on := 20, ground := Go.Ground.data }, { on := 17, ground := Go.Ground.guard }], guard := some (17, false) }) (v := rP M) rfl (by kernel_rfl) (by kernel_rfl) (by kernel_rfl) (fun _ _ _ h => h) (Or.inl ⟨by rfl, fun w hS => by first | rfl | go_simp⟩) hH ?_
  simp only [Act.put, List.setIfInBounds_toArray, List.set_cons_zero, List.set_cons_succ]
  refine wpAnyH_take (i := 22) (oi := { dst := some 32, op := Go.Op.fieldAddr 75 (Go.Operand.tmp 31) 4, type := 0, pos := "law.go:53", after := #[{ on := 21, ground := Go.Ground.data }, { on := 17, ground := Go.Ground.guard }], guard := some (17, false) }) (v := .pointer (some ⟨M, 4, none⟩)) rfl (by kernel_rfl) (by kernel_rfl) (by kernel_rfl) (fun _ _ _ h => h) (Or.inl ⟨by rfl, fun w hS => by first | rfl | go_simp⟩) hH ?_
  simp only [Act.put, List.setIfInBounds_toArray, List.set_cons_zero, List.set_cons_succ]
  refine wpAnyH_take (i := 23) (oi := { dst := some 33, op := Go.Op.load 4 (Go.Operand.tmp 32), type := 4, pos := "law.go:53", after := #[{ on := 22, ground := Go.Ground.data }, { on := 17, ground := Go.Ground.guard }], guard := some (17, false) }) (v := .bool s.dn) rfl (by kernel_rfl) (by kernel_rfl) (by kernel_rfl) (fun _ _ _ h => h) (Or.inl ⟨by rfl, fun w hS => by have h1 := hS.2.2.1; go_simp⟩) hH ?_
  simp only [Act.put, List.setIfInBounds_toArray, List.set_cons_zero, List.set_cons_succ]
  refine wpAnyH_ready (rs := [19]) (by kernel_rfl) (by simp) ?_
  refine AllReadyH.cons (o := { dst := some 29, op := Go.Op.call { callee := Go.Callee.value (Go.Operand.func 23), args := #[Go.Operand.tmp 28], argTypes := #[23] }, type := 4, pos := "law.go:53", after := #[{ on := 18, ground := Go.Ground.data }, { on := 17, ground := Go.Ground.chain }, { on := 17, ground := Go.Ground.guard }], guard := some (17, false) }) rfl (fun K hK => ?_) AllReadyH.nil
  go_simp
  refine (down_any g v s _ H.out.is.drew).mono ?_
  rintro q w2 ⟨rfl, rfl⟩
  refine hK.out _ _ (hH) (fun hHn => ?_)
  clear hK K hH
  have hH := hHn
  clear hHn
  try simp only [Act.put, List.setIfInBounds_toArray, List.set_cons_zero, List.set_cons_succ]
  refine wpAnyH_take (i := 24) (oi := { dst := some 34, op := Go.Op.binOp Go.BinOp.neq 4 (Go.Operand.tmp 29) (Go.Operand.tmp 33) 4, type := 4, pos := "law.go:53", after := #[{ on := 19, ground := Go.Ground.data }, { on := 23, ground := Go.Ground.data }, { on := 17, ground := Go.Ground.guard }], guard := some (17, false) }) (v := .bool false) rfl (by kernel_rfl) (by kernel_rfl) (by kernel_rfl) (fun _ _ _ h => h) (Or.inl ⟨by rfl, fun w hS => by first | rfl | go_simp⟩) hH ?_
  simp only [Act.put, List.setIfInBounds_toArray, List.set_cons_zero, List.set_cons_succ]
  refine wpAnyH_take (i := 25) (oi := { dst := some 35, op := Go.Op.pick (Go.Operand.tmp 27) (Go.Operand.const (Go.Value.bool true)) (Go.Operand.tmp 34), type := 4, pos := "law.go:53", after := #[{ on := 17, ground := Go.Ground.data }, { on := 24, ground := Go.Ground.data }], guard := none }) (v := .bool false) rfl (by kernel_rfl) (by kernel_rfl) (by kernel_rfl) (fun _ _ _ h => h) (Or.inl ⟨by rfl, fun w hS => by first | rfl | go_simp⟩) hH ?_
  simp only [Act.put, List.setIfInBounds_toArray, List.set_cons_zero, List.set_cons_succ]
  refine wpAnyH_take (i := 26) (oi := { dst := some 36, op := Go.Op.move (Go.Operand.tmp 35), type := 4, pos := "law.go:53", after := #[{ on := 25, ground := Go.Ground.data }, { on := 19, ground := Go.Ground.chain }], guard := none }) (v := .bool false) rfl (by kernel_rfl) (by kernel_rfl) (by kernel_rfl) (fun _ _ _ h => h) (Or.inl ⟨by rfl, fun w hS => by first | rfl | go_simp⟩) hH ?_
  simp only [Act.put, List.setIfInBounds_toArray, List.set_cons_zero, List.set_cons_succ]
  refine wpAnyH_take (i := 27) (oi := { dst := some 37, op := Go.Op.move (Go.Operand.tmp 0), type := 23, pos := "law.go:53", after := #[{ on := 26, ground := Go.Ground.guard }], guard := some (26, false) }) (v := slP g) rfl (by kernel_rfl) (by kernel_rfl) (by kernel_rfl) (fun _ _ _ h => h) (Or.inl ⟨by rfl, fun w hS => by first | rfl | go_simp⟩) hH ?_
  simp only [Act.put, List.setIfInBounds_toArray, List.set_cons_zero, List.set_cons_succ]
  refine wpAnyH_take (i := 29) (oi := { dst := some 39, op := Go.Op.move (Go.Operand.tmp 1), type := 28, pos := "law.go:53", after := #[{ on := 26, ground := Go.Ground.guard }], guard := some (26, false) }) (v := rP M) rfl (by kernel_rfl) (by kernel_rfl) (by kernel_rfl) (fun _ _ _ h => h) (Or.inl ⟨by rfl, fun w hS => by first | rfl | go_simp⟩) hH ?_
  simp only [Act.put, List.setIfInBounds_toArray, List.set_cons_zero, List.set_cons_succ]
  refine wpAnyH_take (i := 30) (oi := { dst := some 40, op := Go.Op.nilCheck (Go.Operand.tmp 39), type := 0, pos := "law.go:53", after := #[{ on := 29, ground := Go.Ground.data }, { on := 26, ground := Go.Ground.guard }], guard := some (26, false) }) (v := rP M) rfl (by kernel_rfl) (by kernel_rfl) (by kernel_rfl) (fun _ _ _ h => h) (Or.inl ⟨by rfl, fun w hS => by first | rfl | go_simp⟩) hH ?_
  simp only [Act.put, List.setIfInBounds_toArray, List.set_cons_zero, List.set_cons_succ]
  refine wpAnyH_take (i := 31) (oi := { dst := some 41, op := Go.Op.fieldAddr 75 (Go.Operand.tmp 40) 5, type := 0, pos := "law.go:53", after := #[{ on := 30, ground := Go.Ground.data }, { on := 26, ground := Go.Ground.guard }], guard := some (26, false) }) (v := .pointer (some ⟨M, 5, none⟩)) rfl (by kernel_rfl) (by kernel_rfl) (by kernel_rfl) (fun _ _ _ h => h) (Or.inl ⟨by rfl, fun w hS => by first | rfl | go_simp⟩) hH ?_
  simp only [Act.put, List.setIfInBounds_toArray, List.set_cons_zero, List.set_cons_succ]
  refine wpAnyH_take (i := 32) (oi := { dst := some 42, op := Go.Op.load 3 (Go.Operand.tmp 41), type := 3, pos := "law.go:53", after := #[{ on := 31, ground := Go.Ground.data }, { on := 26, ground := Go.Ground.guard }], guard := some (26, false) }) (v := .int .i64 s.st) rfl (by kernel_rfl) (by kernel_rfl) (by kernel_rfl) (fun _ _ _ h => h) (Or.inl ⟨by rfl, fun w hS => by have h1 := hS.2.2.2; go_simp⟩) hH ?_
  simp only [Act.put, List.setIfInBounds_toArray, List.set_cons_zero, List.set_cons_succ]
  refine wpAnyH_ready (rs := [28]) (by kernel_rfl) (by simp) ?_
  refine AllReadyH.cons (o := { dst := some 38, op := Go.Op.call { callee := Go.Callee.value (Go.Operand.func 22), args := #[Go.Operand.tmp 37], argTypes := #[23] }, type := 3, pos := "law.go:53", after := #[{ on := 27, ground := Go.Ground.data }, { on := 26, ground := Go.Ground.chain }, { on := 26, ground := Go.Ground.guard }], guard := some (26, false) }) rfl (fun K hK => ?_) AllReadyH.nil
  go_simp
  refine (steps_any g v s _ H.out.is.drew).mono ?_
  rintro q w2 ⟨rfl, rfl⟩
  refine hK.out _ _ (hH) (fun hHn => ?_)
  clear hK K hH
  have hH := hHn
  clear hHn
  try simp only [Act.put, List.setIfInBounds_toArray, List.set_cons_zero, List.set_cons_succ]
  refine wpAnyH_take (i := 33) (oi := { dst := some 43, op := Go.Op.binOp Go.BinOp.neq 3 (Go.Operand.tmp 38) (Go.Operand.tmp 42) 3, type := 4, pos := "law.go:53", after := #[{ on := 28, ground := Go.Ground.data }, { on := 32, ground := Go.Ground.data }, { on := 26, ground := Go.Ground.guard }], guard := some (26, false) }) (v := .bool false) rfl (by kernel_rfl) (by kernel_rfl) (by kernel_rfl) (fun _ _ _ h => h) (Or.inl ⟨by rfl, fun w hS => by first | rfl | go_simp⟩) hH ?_
  simp only [Act.put, List.setIfInBounds_toArray, List.set_cons_zero, List.set_cons_succ]
  refine wpAnyH_take (i := 34) (oi := { dst := some 44, op := Go.Op.pick (Go.Operand.tmp 36) (Go.Operand.const (Go.Value.bool true)) (Go.Operand.tmp 43), type := 4, pos := "law.go:53", after := #[{ on := 26, ground := Go.Ground.data }, { on := 33, ground := Go.Ground.data }], guard := none }) (v := .bool false) rfl (by kernel_rfl) (by kernel_rfl) (by kernel_rfl) (fun _ _ _ h => h) (Or.inl ⟨by rfl, fun w hS => by first | rfl | go_simp⟩) hH ?_
  simp only [Act.put, List.setIfInBounds_toArray, List.set_cons_zero, List.set_cons_succ]
  clear hH
  refine wpAnyH_done (by kernel_rfl) ?_ _
  obtain ⟨W1, hW1⟩ : ∃ W1, W1 = w.drew := ⟨_, rfl⟩
  have HB1 : Kp (Below w.heap.size w W1) := ⟨by rw [hW1]; exact ⟨rfl, rfl, rfl, Nat.le_refl _, fun _ _ => rfl⟩⟩
  rw [← hW1]
  clear hW1 c0 c2 c4 c5
  go_wp2_with fail
  go_loopw [5] (fun i wr => ∃ k : Nat, k ≤ s.n ∧ k ≤ 40 ∧ i = .int .i64 k ∧ Below w.heap.size w wr) (fun i _ => 40 - (intOf i).toNat)
  case atStart => exact ⟨0, Nat.zero_le _, by omega, rfl, HB1.out⟩
  case round =>
    obtain ⟨k, hkn, hk40, rfl, hb⟩ := hrel
    have HB := Kp.mk hb
    have T2 := Kp.mk (H.out.keep hb)
    have c0 : wr.cell? ⟨M, 0, none⟩ = some (.int .i64 s.n) := by rw [← HREL.out.n]; exact (H.out.keep hb).ir.cells.1.1
    clear hb
    by_cases h1 : k < s.n
    · have h1' : (k : Int) < (s.n : Int) := by omega
      by_cases h2 : k < 40
      · have h2' : (k : Int) < 40 := by omega
        go_wp2_with fail
        clear c0
        obtain ⟨wo, rfl⟩ : ∃ wo : World, wo = wr := ⟨_, rfl⟩
        refine (read_any g v s (k : Nat) _ T2.out.is HQL.out).mono ?_
        rintro q w3 ⟨rfl, hb3⟩
        obtain ⟨zz, hzz⟩ : ∃ zz, zz = readZ s (k : Nat) := ⟨_, rfl⟩
        obtain ⟨ee, hee⟩ : ∃ ee, ee = hasE s (k : Nat) := ⟨_, rfl⟩
        have HZZ : Kp (zz.length = 64 ∧ Bytes zz) := ⟨by rw [hzz]; exact readZ_len T2.out.is.k _⟩
        have HRR : Kp (rReadZ r (k : Nat) = zz ∧ rHas r (k : Nat) = ee) := ⟨by rw [hzz, hee]; exact ⟨HREL.out.read _, HREL.out.has _⟩⟩
        rw [← hzz, ← hee]
        have T3 := Kp.mk (T2.out.keep hb3)
        have HB3 : Kp (Below w.heap.size w w3) := ⟨HB.out.trans (hb3.mono HB.out.size)⟩
        clear hb3 hzz hee
        go_wp2_with (first
          | (refine wpList_alloc_row rfl 35 rfl _ _ infoz64 ?_; refine wpl_world (w := w3.alloc (.cells (kv .u8 z64).toArray 35)) (fun w6 => Row w6 w3.heap.size 35 .u8 z64 ∧ Below w3.heap.size w3 w6) ⟨Blk.new _ _, more (Below.refl _ _) _⟩ ?_; rintro W8 ⟨h1, h2⟩; have K1 := Kp.mk h1; have K2 := Kp.mk h2; clear h1 h2)
          | (refine wpList_store_row rfl 35 (.tmp 6) (.tmp 61) rfl w3.heap.size (kv .u8 zz).toArray rfl rfl 35 _ K1.out (cells64 HZZ.out.1) (by rw [kv_size, kv_size, HZZ.out.1, z64_len]) (kv_all _ _) ?_; refine wpl_world (w := W8.setRow w3.heap.size (kv .u8 zz).toArray) (fun w6 => Row w6 w3.heap.size 35 .u8 zz ∧ Below w3.heap.size w3 w6) ⟨K1.out.setRow _, Below.row K2.out (Nat.le_refl _) _⟩ ?_; rintro W4 ⟨h1, h2⟩; have X4 := Kp.mk h1; have T4 := Kp.mk (T3.out.keep h2); have HB4 : Kp (Below w.heap.size w W4) := ⟨HB3.out.trans (h2.mono HB3.out.size)⟩; clear h1 h2 K1 K2))
        refine (rread_any M v1 v2 r (k : Nat) _ T4.out.ir).mono ?_
        rintro q w5 ⟨rfl, hb5⟩
        rw [HRR.out.1, HRR.out.2]
        have T5 := Kp.mk (T4.out.keep hb5)
        have HB5 : Kp (Below w.heap.size w w5) := ⟨HB4.out.trans (hb5.mono HB4.out.size)⟩
        have X5 := Kp.mk (X4.out.keep hb5)
        have HX5 : Kp (w3.heap.size < w5.heap.size) := ⟨X5.out.lt⟩
        have heq := fun w => eqIn35 HZZ.out.1 HZZ.out.2 w
        clear hb5
        go_wp2_with (first
          | (refine wpList_alloc_row rfl 30 rfl _ _ infoz30 ?_; refine wpl_world (w := w5.alloc (.cells (kv .u8 z64).toArray 30)) (fun w6 => Row w6 w5.heap.size 30 .u8 z64 ∧ Below w5.heap.size w5 w6) ⟨Blk.new _ _, more (Below.refl _ _) _⟩ ?_; rintro W9 ⟨h1, h2⟩; have K1 := Kp.mk h1; have K2 := Kp.mk h2; clear h1 h2)
          | (refine wpList_store_row rfl 30 (.tmp 8) (.tmp 67) rfl w5.heap.size (kv .u8 zz).toArray rfl rfl 30 _ K1.out (cells30 HZZ.out.1) (by rw [kv_size, kv_size, HZZ.out.1, z64_len]) (kv_all _ _) ?_; refine wpl_world (w := W9.setRow w5.heap.size (kv .u8 zz).toArray) (fun w6 => Row w6 w5.heap.size 30 .u8 zz ∧ Below w5.heap.size w5 w6) ⟨K1.out.setRow _, Below.row K2.out (Nat.le_refl _) _⟩ ?_; rintro W6 ⟨h1, h2⟩; have Y6 := Kp.mk h1; have T6 := Kp.mk (T5.out.keep h2); have X6 := Kp.mk (X5.out.keep h2); have HB6 : Kp (Below w.heap.size w W6) := ⟨HB5.out.trans (h2.mono HB5.out.size)⟩; clear h1 h2 K1 K2)
          | (refine wpList_load_rowG (by kernel_rfl) 35 (.tmp 6) rfl w3.heap.size rfl 35 _ (0, 0) _ X6.out Try.underlying35 rfl (cells64 HZZ.out.1) ?_)
          | (refine wpList_load_rowG (by kernel_rfl) 30 (.tmp 8) rfl w5.heap.size rfl 30 _ (0, 0) _ Y6.out Try.underlying30 rfl (cells30 HZZ.out.1) ?_))
        go_roundw
        case rel => exact ⟨k + 1, by omega, by omega, by first | rfl | go_num, HB6.out⟩
        case measure => simp [intOf] <;> omega
      · have h2' : ¬ (k : Int) < 40 := by omega
        go_wp2_with fail
        go_ret
        exact ⟨rfl, HB.out⟩
    · have h1' : ¬ (k : Int) < (s.n : Int) := by omega
      go_wp2_with fail
      go_ret
      exact ⟨rfl, HB.out⟩
end Go.Proofs.Ytgikedbnnlckjaa
