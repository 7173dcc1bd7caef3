/-
  layer 15: a diary's read; seal.
-/
import Derived.Test.YtgikedbnnlckjaaDiD
namespace Go.Proofs.Ytgikedbnnlckjaa
open Go.RowKit

theorem readL_len {s : SlS} {k : Nat} (h : s.Ok) (hk : k < s.n) : (readL s k).length = 64 ∧ Bytes (readL s k) := by
  unfold readL
  split
  · rename_i x hx
    have hm := List.mem_of_find?_eq_some hx
    exact (h.qq x (List.mem_reverse.1 hm)).2
  · exact ⟨by rw [List.length_take, List.length_drop, h.ll]; omega, (h.lb.drop _).take _⟩
theorem readZ_len {s : SlS} (h : s.Ok) (a : Int) : (readZ s a).length = 64 ∧ Bytes (readZ s a) := by
  unfold readZ
  split
  · rename_i he
    have := hasE_zero he
    exact readL_len h (by omega)
  · exact ⟨z64_len, fun x hx => by rw [List.eq_of_mem_replicate hx]; omega⟩
theorem begN_le {s : SlS} (h : s.Ok) (gen : Int) : begN s.n gen ≤ 4096 := by
  have := h.n1
  unfold begN
  have e : (gen % 2).toNat = 0 ∨ (gen % 2).toNat = 1 := by omega
  rcases e with e | e <;> rw [e] <;> omega
theorem results_row_tmp {P : Program} {fn : Func} {p q : Tmp} {ty : TypeId} (h : fn.results = #[.cell p ty, .tmp q]) (tmps : Array Value) (w : World) (g : Nat) (t : TypeId) (cs : Array Value) (fr : Nat × Nat) (d : TypeDesc) (u : Value)
    (hp : tmps.getD p undef = .pointer (some ⟨g, 0, none⟩)) (hq : tmps.getD q undef = u) (hg : w.heap[g]? = some (.cells cs t fr))
    (hu : P.underlying ty = some d) (hd : (match d with | .struct _ | .array _ _ => true | _ => false) = true) (hi : (P.info? ty).map (·.size) = some cs.size) :
    (results fn tmps).run P w = .ok (.tuple #[.agg cs, u]) w := by
  have hp' : tmps[p]?.getD undef = .pointer (some ⟨g, 0, none⟩) := by simpa using hp
  have hq' : tmps[q]?.getD undef = u := by simpa using hq
  simp [results, h, hp', hq', asAddr, run_loadVar_row w g t ty cs fr d hg hu hd hi]
theorem results_row {P : Program} {fn : Func} {p : Tmp} {ty : TypeId} (h : fn.results = #[.cell p ty]) (tmps : Array Value) (w : World) (g : Nat) (t : TypeId) (cs : Array Value) (fr : Nat × Nat) (d : TypeDesc)
    (hp : tmps.getD p undef = .pointer (some ⟨g, 0, none⟩)) (hg : w.heap[g]? = some (.cells cs t fr))
    (hu : P.underlying ty = some d) (hd : (match d with | .struct _ | .array _ _ => true | _ => false) = true) (hi : (P.info? ty).map (·.size) = some cs.size) :
    (results fn tmps).run P w = .ok (.agg cs) w := by
  have hp' : tmps[p]?.getD undef = .pointer (some ⟨g, 0, none⟩) := by simpa using hp
  simp [results, h, hp', asAddr, run_loadVar_row w g t ty cs fr d hg hu hd hi]
set_option maxRecDepth 100000 in
set_option maxHeartbeats 1000000 in
theorem dread_any (db g : Nat) (v : Value) (s : SlS) (gen : Int) (nx p : Nat) (w : World) (h : DiIs w db g v s gen nx) (hp : p ≤ 4096) (hq : s.q.length ≤ 1000000) :
    Calls Try.prog 62 #[dP db, .int .i64 p] w (ReadPost (readZ s ((begN s.n gen + p : Nat) : Int)) (hasE s ((begN s.n gen + p : Nat) : Int)) w) := by
  have H := Kp.mk h
  have HQL := Kp.mk hq
  obtain ⟨bg, hbg⟩ : ∃ bg, bg = begN s.n gen := ⟨_, rfl⟩
  have HBG : Kp (bg = begN s.n gen) := ⟨hbg⟩
  have HPB : Kp (0 ≤ (bg : Int) ∧ (bg : Int) ≤ 4096 ∧ (p : Int) ≤ 4096) := ⟨by have := begN_le h.is.k gen; omega⟩
  rw [← hbg]
  have HZL : Kp ((readZ s ((bg + p : Nat) : Int)).length = 64) := ⟨(readZ_len h.is.k _).1⟩
  obtain ⟨C, hCe⟩ : ∃ C, C = w.heap.size := ⟨_, rfl⟩
  have HCe := Kp.mk hCe
  have HCN : Kp (db < C) := ⟨by rw [hCe]; exact h.b.lt⟩
  clear hq hbg h hp
  go_enter Try.func62, Try.ntmps62
  go_wp2_with (refine wpList_alloc_row rfl 35 rfl _ _ infoz64 ?_; rw [← hCe]; refine wpl_world (fun w2 => Row w2 C 35 .u8 z64 ∧ Below w.heap.size w w2) ⟨Blk.newAt _ HCe.out, more (Below.refl _ _) _⟩ ?_; rintro W2 ⟨h1, h2⟩; have HC := Kp.mk h1; have K2 := Kp.mk h2; have HD := Kp.mk (H.out.keep h2); clear h1 h2 hCe)
  refine wp_region_held_drew (S := fun w' => Blk w' db (dObj g gen nx)) (by kernel_rfl) (HD.out.b.draw) (fun hH => ?_)
  refine wpAnyH_take (i := 0) (oi := { dst := some 6, op := Go.Op.move (Go.Operand.tmp 0), type := 52, pos := "diary.go:131", after := #[], guard := none }) (v := .pointer (some ⟨db, 0, none⟩)) rfl (by kernel_rfl) (by kernel_rfl) (by kernel_rfl) (fun _ _ _ h => h) (Or.inl ⟨by rfl, fun w hS => by first | rfl | go_simp⟩) hH ?_
  simp only [Act.put, List.setIfInBounds_toArray, List.set_cons_zero, List.set_cons_succ]
  refine wpAnyH_take (i := 1) (oi := { dst := some 7, op := Go.Op.nilCheck (Go.Operand.tmp 6), type := 0, pos := "diary.go:131", after := #[{ on := 0, ground := Go.Ground.data }], guard := none }) (v := .pointer (some ⟨db, 0, none⟩)) rfl (by kernel_rfl) (by kernel_rfl) (by kernel_rfl) (fun _ _ _ h => h) (Or.inl ⟨by rfl, fun w hS => by first | rfl | go_simp⟩) hH ?_
  simp only [Act.put, List.setIfInBounds_toArray, List.set_cons_zero, List.set_cons_succ]
  refine wpAnyH_take (i := 2) (oi := { dst := some 8, op := Go.Op.fieldAddr 89 (Go.Operand.tmp 7) 0, type := 0, pos := "diary.go:131", after := #[{ on := 1, ground := Go.Ground.data }], guard := none }) (v := .pointer (some ⟨db, 0, none⟩)) rfl (by kernel_rfl) (by kernel_rfl) (by kernel_rfl) (fun _ _ _ h => h) (Or.inl ⟨by rfl, fun w hS => by first | rfl | go_simp⟩) hH ?_
  simp only [Act.put, List.setIfInBounds_toArray, List.set_cons_zero, List.set_cons_succ]
  refine wpAnyH_take (i := 3) (oi := { dst := some 9, op := Go.Op.load 23 (Go.Operand.tmp 8), type := 23, pos := "diary.go:131", after := #[{ on := 2, ground := Go.Ground.data }], guard := none }) (v := slP g) rfl (by kernel_rfl) (by kernel_rfl) (by kernel_rfl) (fun _ _ _ h => h) (Or.inl ⟨by rfl, fun w hS => by have h1 := hS.cell 0; go_simp⟩) hH ?_
  simp only [Act.put, List.setIfInBounds_toArray, List.set_cons_zero, List.set_cons_succ]
  refine wpAnyH_take (i := 4) (oi := { dst := some 10, op := Go.Op.move (Go.Operand.tmp 0), type := 52, pos := "diary.go:131", after := #[], guard := none }) (v := .pointer (some ⟨db, 0, none⟩)) rfl (by kernel_rfl) (by kernel_rfl) (by kernel_rfl) (fun _ _ _ h => h) (Or.inl ⟨by rfl, fun w hS => by first | rfl | go_simp⟩) hH ?_
  simp only [Act.put, List.setIfInBounds_toArray, List.set_cons_zero, List.set_cons_succ]
  refine wpAnyH_take (i := 5) (oi := { dst := some 11, op := Go.Op.nilCheck (Go.Operand.tmp 10), type := 0, pos := "diary.go:131", after := #[{ on := 4, ground := Go.Ground.data }], guard := none }) (v := .pointer (some ⟨db, 0, none⟩)) rfl (by kernel_rfl) (by kernel_rfl) (by kernel_rfl) (fun _ _ _ h => h) (Or.inl ⟨by rfl, fun w hS => by first | rfl | go_simp⟩) hH ?_
  simp only [Act.put, List.setIfInBounds_toArray, List.set_cons_zero, List.set_cons_succ]
  refine wpAnyH_take (i := 6) (oi := { dst := some 12, op := Go.Op.fieldAddr 89 (Go.Operand.tmp 11) 0, type := 0, pos := "diary.go:131", after := #[{ on := 5, ground := Go.Ground.data }], guard := none }) (v := .pointer (some ⟨db, 0, none⟩)) rfl (by kernel_rfl) (by kernel_rfl) (by kernel_rfl) (fun _ _ _ h => h) (Or.inl ⟨by rfl, fun w hS => by first | rfl | go_simp⟩) hH ?_
  simp only [Act.put, List.setIfInBounds_toArray, List.set_cons_zero, List.set_cons_succ]
  refine wpAnyH_take (i := 7) (oi := { dst := some 13, op := Go.Op.load 23 (Go.Operand.tmp 12), type := 23, pos := "diary.go:131", after := #[{ on := 6, ground := Go.Ground.data }], guard := none }) (v := slP g) rfl (by kernel_rfl) (by kernel_rfl) (by kernel_rfl) (fun _ _ _ h => h) (Or.inl ⟨by rfl, fun w hS => by have h1 := hS.cell 0; go_simp⟩) hH ?_
  simp only [Act.put, List.setIfInBounds_toArray, List.set_cons_zero, List.set_cons_succ]
  refine wpAnyH_take (i := 8) (oi := { dst := some 14, op := Go.Op.move (Go.Operand.tmp 0), type := 52, pos := "diary.go:131", after := #[], guard := none }) (v := .pointer (some ⟨db, 0, none⟩)) rfl (by kernel_rfl) (by kernel_rfl) (by kernel_rfl) (fun _ _ _ h => h) (Or.inl ⟨by rfl, fun w hS => by first | rfl | go_simp⟩) hH ?_
  simp only [Act.put, List.setIfInBounds_toArray, List.set_cons_zero, List.set_cons_succ]
  refine wpAnyH_take (i := 9) (oi := { dst := some 15, op := Go.Op.nilCheck (Go.Operand.tmp 14), type := 0, pos := "diary.go:131", after := #[{ on := 8, ground := Go.Ground.data }], guard := none }) (v := .pointer (some ⟨db, 0, none⟩)) rfl (by kernel_rfl) (by kernel_rfl) (by kernel_rfl) (fun _ _ _ h => h) (Or.inl ⟨by rfl, fun w hS => by first | rfl | go_simp⟩) hH ?_
  simp only [Act.put, List.setIfInBounds_toArray, List.set_cons_zero, List.set_cons_succ]
  refine wpAnyH_take (i := 10) (oi := { dst := some 16, op := Go.Op.fieldAddr 89 (Go.Operand.tmp 15) 1, type := 0, pos := "diary.go:131", after := #[{ on := 9, ground := Go.Ground.data }], guard := none }) (v := .pointer (some ⟨db, 1, none⟩)) rfl (by kernel_rfl) (by kernel_rfl) (by kernel_rfl) (fun _ _ _ h => h) (Or.inl ⟨by rfl, fun w hS => by first | rfl | go_simp⟩) hH ?_
  simp only [Act.put, List.setIfInBounds_toArray, List.set_cons_zero, List.set_cons_succ]
  refine wpAnyH_take (i := 11) (oi := { dst := some 17, op := Go.Op.load 55 (Go.Operand.tmp 16), type := 55, pos := "diary.go:131", after := #[{ on := 10, ground := Go.Ground.data }], guard := none }) (v := .int .u32 gen) rfl (by kernel_rfl) (by kernel_rfl) (by kernel_rfl) (fun _ _ _ h => h) (Or.inl ⟨by rfl, fun w hS => by have h1 := hS.cell 1; go_simp⟩) hH ?_
  simp only [Act.put, List.setIfInBounds_toArray, List.set_cons_zero, List.set_cons_succ]
  refine wpAnyH_take (i := 13) (oi := { dst := some 19, op := Go.Op.move (Go.Operand.tmp 1), type := 3, pos := "diary.go:131", after := #[], guard := none }) (v := .int .i64 (p : Nat)) rfl (by kernel_rfl) (by kernel_rfl) (by kernel_rfl) (fun _ _ _ h => h) (Or.inl ⟨by rfl, fun w hS => by first | rfl | go_simp⟩) hH ?_
  simp only [Act.put, List.setIfInBounds_toArray, List.set_cons_zero, List.set_cons_succ]
  refine wpAnyH_ready (rs := [12]) (by kernel_rfl) (by simp) ?_
  refine AllReadyH.cons (o := { dst := some 18, op := Go.Op.call { callee := Go.Callee.value (Go.Operand.func 58), args := #[Go.Operand.tmp 13, Go.Operand.tmp 17], argTypes := #[23, 55] }, type := 3, pos := "diary.go:131", after := #[{ on := 7, ground := Go.Ground.data }, { on := 11, ground := Go.Ground.data }], guard := none }) rfl (fun K hK => ?_) AllReadyH.nil
  go_simp
  refine (begin_any g v s gen _ HD.out.is.drew HD.out.gr).mono ?_
  rintro r w2 ⟨rfl, rfl⟩
  rw [← HBG.out]
  refine hK.out _ _ (hH) (fun hHn => ?_)
  clear hK K hH
  have hH := hHn
  clear hHn
  try simp only [Act.put, List.setIfInBounds_toArray, List.set_cons_zero, List.set_cons_succ]
  refine wpAnyH_take (i := 14) (oi := { dst := some 20, op := Go.Op.binOp Go.BinOp.add 3 (Go.Operand.tmp 18) (Go.Operand.tmp 19) 3, type := 3, pos := "diary.go:131", after := #[{ on := 12, ground := Go.Ground.data }, { on := 13, ground := Go.Ground.data }], guard := none }) (v := .int .i64 (((bg + p : Nat) : Int))) rfl (by kernel_rfl) (by kernel_rfl) (by kernel_rfl) (fun _ _ _ h => h) (Or.inl ⟨by rfl, fun w hS => by have h1 := HPB.out; have h2 : ((bg + p : Nat) : Int) = (bg : Int) + p := (by omega); rw [h2]; have h3 := IntWalk.i64_in ((bg : Int) + p) (by omega); go_simp⟩) hH ?_
  simp only [Act.put, List.setIfInBounds_toArray, List.set_cons_zero, List.set_cons_succ]
  refine wpAnyH_ready (rs := [15]) (by kernel_rfl) (by simp) ?_
  refine AllReadyH.cons (o := { dst := some 21, op := Go.Op.call { callee := Go.Callee.value (Go.Operand.func 14), args := #[Go.Operand.tmp 9, Go.Operand.tmp 20], argTypes := #[23, 3] }, type := 36, pos := "diary.go:131", after := #[{ on := 3, ground := Go.Ground.data }, { on := 14, ground := Go.Ground.data }, { on := 12, ground := Go.Ground.chain }], guard := none }) rfl (fun K hK => ?_) AllReadyH.nil
  go_simp
  refine (read_any g v s ((bg + p : Nat) : Int) _ HD.out.is.drew HQL.out).mono ?_
  rintro r w2 ⟨rfl, hb2⟩
  have HB2 := Kp.mk hb2
  have HC2 : Kp (Row w2 C 35 .u8 z64) := ⟨HC.out.drew.keep hb2⟩
  clear hb2
  refine hK.out _ _ (HD.out.b.draw.keep HB2.out) (fun hHn => ?_)
  clear hK K hH
  have hH := hHn
  clear hHn
  try simp only [Act.put, List.setIfInBounds_toArray, List.set_cons_zero, List.set_cons_succ]
  refine wpAnyH_take (i := 16) (oi := { dst := some 22, op := Go.Op.extract (Go.Operand.tmp 21) 0, type := 35, pos := "diary.go:131", after := #[{ on := 15, ground := Go.Ground.data }], guard := none }) (v := sec (readZ s ((bg + p : Nat) : Int))) rfl (by kernel_rfl) (by kernel_rfl) (by kernel_rfl) (fun _ _ _ h => h) (Or.inl ⟨by rfl, fun w hS => by first | rfl | go_simp⟩) hH ?_
  simp only [Act.put, List.setIfInBounds_toArray, List.set_cons_zero, List.set_cons_succ]
  refine wpAnyH_take (i := 17) (oi := { dst := some 23, op := Go.Op.extract (Go.Operand.tmp 21) 1, type := 24, pos := "diary.go:131", after := #[{ on := 15, ground := Go.Ground.data }], guard := none }) (v := .int .i64 (hasE s ((bg + p : Nat) : Int))) rfl (by kernel_rfl) (by kernel_rfl) (by kernel_rfl) (fun _ _ _ h => h) (Or.inl ⟨by rfl, fun w hS => by first | rfl | go_simp⟩) hH ?_
  simp only [Act.put, List.setIfInBounds_toArray, List.set_cons_zero, List.set_cons_succ]
  refine wpAnyH_ready (rs := [18]) (by kernel_rfl) (by simp) ?_
  refine AllReadyH.cons (o := { dst := none, op := Go.Op.store 35 (Go.Operand.tmp 4) (Go.Operand.tmp 22), type := 0, pos := "diary.go:131", after := #[{ on := 16, ground := Go.Ground.data }, { on := 15, ground := Go.Ground.chain }, { on := 0, ground := Go.Ground.phase }, { on := 1, ground := Go.Ground.phase }, { on := 2, ground := Go.Ground.phase }, { on := 3, ground := Go.Ground.phase }, { on := 4, ground := Go.Ground.phase }, { on := 5, ground := Go.Ground.phase }, { on := 6, ground := Go.Ground.phase }, { on := 7, ground := Go.Ground.phase }, { on := 8, ground := Go.Ground.phase }, { on := 9, ground := Go.Ground.phase }, { on := 10, ground := Go.Ground.phase }, { on := 11, ground := Go.Ground.phase }, { on := 12, ground := Go.Ground.phase }, { on := 13, ground := Go.Ground.phase }, { on := 14, ground := Go.Ground.phase }, { on := 15, ground := Go.Ground.phase }, { on := 16, ground := Go.Ground.phase }, { on := 17, ground := Go.Ground.phase }], guard := none }) rfl (fun K hK => ?_) AllReadyH.nil
  rw [if_pos (by rfl)]
  refine wp_store_row 35 (.tmp 4) (.tmp 22) rfl C (kv .u8 (readZ s ((bg + p : Nat) : Int))).toArray rfl rfl 35 _ HC2.out (cells64 HZL.out) (by rw [kv_size, kv_size, HZL.out, z64_len]) (kv_all _ _) ?_
  refine hK.out _ _ ((setRow_other _ _ _ _ (by have := HCN.out; omega)).trans (HD.out.b.draw.keep HB2.out)) (fun hHn => ?_)
  clear hK K hH
  have hH := hHn
  clear hHn
  try simp only [Act.put, List.setIfInBounds_toArray, List.set_cons_zero, List.set_cons_succ]
  refine wpAnyH_take (i := 19) (oi := { dst := some 5, op := Go.Op.assign (Go.Operand.tmp 23), type := 24, pos := "diary.go:131", after := #[{ on := 17, ground := Go.Ground.data }, { on := 18, ground := Go.Ground.chain }, { on := 0, ground := Go.Ground.phase }, { on := 1, ground := Go.Ground.phase }, { on := 2, ground := Go.Ground.phase }, { on := 3, ground := Go.Ground.phase }, { on := 4, ground := Go.Ground.phase }, { on := 5, ground := Go.Ground.phase }, { on := 6, ground := Go.Ground.phase }, { on := 7, ground := Go.Ground.phase }, { on := 8, ground := Go.Ground.phase }, { on := 9, ground := Go.Ground.phase }, { on := 10, ground := Go.Ground.phase }, { on := 11, ground := Go.Ground.phase }, { on := 12, ground := Go.Ground.phase }, { on := 13, ground := Go.Ground.phase }, { on := 14, ground := Go.Ground.phase }, { on := 15, ground := Go.Ground.phase }, { on := 16, ground := Go.Ground.phase }, { on := 17, ground := Go.Ground.phase }, { on := 18, ground := Go.Ground.phase }], guard := none }) (v := .int .i64 (hasE s ((bg + p : Nat) : Int))) rfl (by kernel_rfl) (by kernel_rfl) (by kernel_rfl) (fun _ _ _ h => h) (Or.inl ⟨by rfl, fun w hS => by first | rfl | go_simp⟩) hH ?_
  simp only [Act.put, List.setIfInBounds_toArray, List.set_cons_zero, List.set_cons_succ]
  clear hH
  refine wpAnyH_done (by kernel_rfl) ?_ _
  have HF : Kp (Row (w2.setRow C (kv .u8 (readZ s ((bg + p : Nat) : Int))).toArray) C 35 .u8 (readZ s ((bg + p : Nat) : Int)) ∧ Below w.heap.size w (w2.setRow C (kv .u8 (readZ s ((bg + p : Nat) : Int))).toArray)) := ⟨HC2.out.setRow _, Below.row (K2.out.trans (((show Below W2.heap.size W2 W2.drew from ⟨rfl, rfl, rfl, Nat.le_refl _, fun _ _ => rfl⟩).trans HB2.out).mono K2.out.size)) (by rw [HCe.out]; exact Nat.le_refl _) _⟩
  go_wp2_with fail
  refine bodyPost_ret (results_row_tmp rfl _ _ C 35 _ (0, 0) _ _ rfl rfl HF.out.1 Try.underlying35 rfl (cells64 HZL.out)) rfl ⟨rfl, HF.out.2⟩
end Go.Proofs.Ytgikedbnnlckjaa
