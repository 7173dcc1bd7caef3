/-
  layer 14: Does.
-/
import Derived.Test.YtgikedbnnlckjaaRsF
namespace Go.Proofs.Ytgikedbnnlckjaa
open Go.RowKit

theorem ocells_1 (o : OpV) : (ocells o).toArray[1]? = some (.int .i64 o.at_) := rfl
/-- The two devices beside each other. -/
structure Two (B g M : Nat) (w0 w : World) (v v1 v2 : Value) (s : SlS) (r : RlS) : Prop where
  is : SlIs w g v s
  ir : RlIs w M v1 v2 r
  bg : B ≤ g
  bM : B ≤ M
  below : Below B w0 w
theorem Two.keep {B g M : Nat} {w0 w w' : World} {v v1 v2 : Value} {s : SlS} {r : RlS} (h : Two B g M w0 w v v1 v2 s r) (hb : Below w.heap.size w w') : Two B g M w0 w' v v1 v2 s r :=
  ⟨h.is.keep hb, h.ir.keep hb, h.bg, h.bM, h.below.trans (hb.mono (by have := h.ir.lt; have := h.bM; omega))⟩
theorem Two.dev {B g M : Nat} {w0 w w' : World} {v v' v1 v2 : Value} {s s' : SlS} {r : RlS} (h : Two B g M w0 w v v1 v2 s r) (hs : SlStep g v v' s' w w') : Two B g M w0 w' v' v1 v2 s' r :=
  ⟨hs.is, h.ir.dev hs h.is, h.bg, h.bM, h.below.trans (hs.below h.bg (by have := h.ir.lt; have := h.bM; omega) (fun k hk => by have := (h.is.o.lt k hk).1; have := h.bg; omega))⟩
theorem Two.doc {B g M : Nat} {w0 w w' : World} {v v1 v2 v1' v2' : Value} {s : SlS} {r r' : RlS} (h : Two B g M w0 w v v1 v2 s r) (hs : RStep M v1 v2 v1' v2' r' w w') : Two B g M w0 w' v v1' v2' s r' :=
  ⟨h.is.doc hs h.ir, hs.is, h.bg, h.bM, h.below.trans (hs.below h.ir h.bM)⟩
def Bds (s s' : SlS) (r r' : RlS) : Prop := s'.st ≤ s.st + 1 ∧ s'.q.length ≤ s.q.length + 1 ∧ r'.sure.length ≤ r.sure.length + r.q.length + 1 ∧ s'.n = s.n
def DoesPost (B g M : Nat) (s : SlS) (r : RlS) (w0 : World) (e : Ending) (w' : World) : Prop :=
  e = .returned (.bool true) ∧ ∃ v' v1' v2' s' r', SlIs w' g v' s' ∧ RlIs w' M v1' v2' r' ∧ Rel s' r' ∧ Below B w0 w' ∧ Bds s s' r r'
theorem bds_write (s : SlS) (r : RlS) (a : Int) (z : List Int) : Bds s (writeS s a z) r (rWriteS r a z) := by
  unfold Bds
  have h1 : (writeS s a z).st ≤ s.st + 1 ∧ (writeS s a z).q.length ≤ s.q.length + 1 ∧ (writeS s a z).n = s.n := by
    unfold writeS
    split
    · split
      · exact ⟨stepS_more s, by simp, (stepS_q s).2.2⟩
      · exact ⟨stepS_more s, by rw [(stepS_q s).1]; omega, (stepS_q s).2.2⟩
    · exact ⟨by omega, by omega, rfl⟩
  have h2 : (rWriteS r a z).sure.length ≤ r.sure.length + r.q.length + 1 := by
    unfold rWriteS
    split
    · split
      · rw [(rStep_same r).2.1]; omega
      · show (rStep r).sure.length ≤ _; rw [(rStep_same r).2.1]; omega
    · omega
  exact ⟨h1.1, h1.2.1, h2, h1.2.2⟩
theorem bds_flush (s : SlS) (r : RlS) : Bds s (flushS s) r (rFlushS r) := by
  unfold Bds
  have h1 : (flushS s).st ≤ s.st + 1 ∧ (flushS s).q.length ≤ s.q.length + 1 ∧ (flushS s).n = s.n := by
    unfold flushS
    split
    · exact ⟨by omega, by omega, rfl⟩
    · split
      · exact ⟨stepS_more s, by simp, (stepS_q s).2.2⟩
      · exact ⟨stepS_more s, by rw [(stepS_q s).1]; omega, (stepS_q s).2.2⟩
  have h2 : (rFlushS r).sure.length ≤ r.sure.length + r.q.length + 1 := by
    unfold rFlushS
    split
    · omega
    · split
      · rw [(rStep_same r).2.1]; omega
      · show (rsettle r.sure r.q).length ≤ _; have := rsettle_len r.q r.sure; omega
  exact ⟨h1.1, h1.2.1, h2, h1.2.2⟩
theorem bds_crash (s : SlS) (r : RlS) (n b : Int) : Bds s (crashS s n b) r (rCrashS r n b) := by
  refine ⟨by show s.st ≤ s.st + 1; omega, by show ([] : List (Nat × List Int)).length ≤ _; simp, ?_, rfl⟩
  show (rcrashL r.sure r.q (upN n r.q.length) (upN b 64)).length ≤ _
  unfold rcrashL
  have h1 : (rsettle r.sure (r.q.take (upN n r.q.length))).length ≤ r.sure.length + r.q.length := by
    have := rsettle_len (r.q.take (upN n r.q.length)) r.sure
    rw [List.length_take] at this
    omega
  split
  · exact Nat.le_trans (rputL_len _ _) (by omega)
  · omega
theorem neg1 : IntKind.i64.wrap (-1) = -1 := by decide
set_option maxRecDepth 100000 in
set_option maxHeartbeats 8000000 in
theorem does_any (B g M : Nat) (v v1 v2 : Value) (s : SlS) (r : RlS) (o : OpV) (w : World) (h : Two B g M w w v v1 v2 s r) (hrel : Rel s r) (ho : o.Ok) (hst : s.st + 1 ≤ 1000000) (hq : r.sure.length + r.q.length + 1 ≤ 1000000) :
    Calls Try.prog 12 #[slP g, rP M, .agg (ocells o).toArray] w (DoesPost B g M s r w) := by
  have H := Kp.mk h
  have HREL0 := Kp.mk hrel
  have HOk := Kp.mk ho
  have HST := Kp.mk hst
  have HQS := Kp.mk hq
  have HRQ : Kp (r.q.length + 1 ≤ 1000000) := ⟨by omega⟩
  have HQL : Kp (s.q.length ≤ 1000000) := ⟨by rw [← hrel.q]; omega⟩
  have HRT : Kp (r.st + 1 ≤ 1000000) := ⟨by rw [hrel.st]; exact hst⟩
  have H67 : Kp ((ocells o).length = 67) := ⟨ocells_len ho.l⟩
  have hC := fun (w : World) => box_row (t := 32) (cs := ocells o) (by rw [List.size_toArray, H67.out]; exact info32s) w
  have hBX : Kp (∀ W : World, W = w.alloc (.cells (ocells o).toArray 32) → Blk W w.heap.size (.cells (ocells o).toArray 32) ∧ Below w.heap.size w W) := ⟨by rintro W rfl; exact ⟨Blk.new _ _, more (Below.refl _ _) _⟩⟩
  clear h hrel hst hq
  by_cases k0 : o.kind = 0
  · have HEW : Kp (rWriteE r o.at_ = writeE s o.at_) := ⟨(HREL0.out.write o.at_ o.to).1⟩
    have HREL : Kp (Rel (writeS s o.at_ o.to) (rWriteS r o.at_ o.to)) := ⟨(HREL0.out.write o.at_ o.to).2⟩
    have HBD : Kp (Bds s (writeS s o.at_ o.to) r (rWriteS r o.at_ o.to)) := ⟨bds_write s r o.at_ o.to⟩
    obtain ⟨ee, hee⟩ : ∃ ee, ee = writeE s o.at_ := ⟨_, rfl⟩
    have HEE := Kp.mk hee
    rw [← hee] at HEW
    clear ho hee
    go_enter Try.func12, Try.ntmps12
    go_wp2_with (refine wpList_box_eq rfl 32 (.tmp 2) rfl _ rfl _ _ (hC _) ?_; refine wpl_world (w := w.alloc (.cells (ocells o).toArray 32)) (fun w2 => Blk w2 w.heap.size (.cells (ocells o).toArray 32) ∧ Below w.heap.size w w2) (hBX.out _ rfl) ?_; rintro W1 ⟨h1, h2⟩; have HO := Kp.mk h1; have T1 := Kp.mk (H.out.keep h2); have c0 : W1.cell? ⟨w.heap.size, 0, none⟩ = some (.int .i64 o.kind) := (by rw [h1.cell 0]; rfl); clear h1 h2 hC)
    have HO1 : Kp (Blk W1.drew w.heap.size (.cells (ocells o).toArray 32)) := ⟨HO.out.draw⟩
    have T1a := T1
    clear T1
    have T1 : Kp (Two B g M w W1.drew v v1 v2 s r) := ⟨T1a.out.keep ⟨rfl, rfl, rfl, Nat.le_refl _, fun _ _ => rfl⟩⟩
    refine wp_region_held_drew (S := fun w' => Blk w' w.heap.size (.cells (ocells o).toArray 32)) (by kernel_rfl) (HO.out.draw) (fun hH => ?_)
    refine wpAnyH_take (i := 0) (oi := { dst := some 11, op := Go.Op.move (Go.Operand.tmp 0), type := 23, pos := "law.go:35", after := #[], guard := none }) (v := slP g) rfl (by kernel_rfl) (by kernel_rfl) (by kernel_rfl) (fun _ _ _ h => h) (Or.inl ⟨by rfl, fun w hS => by first | rfl | go_simp⟩) hH ?_
    simp only [Act.put, List.setIfInBounds_toArray, List.set_cons_zero, List.set_cons_succ]
    refine wpAnyH_take (i := 1) (oi := { dst := some 12, op := Go.Op.fieldAddr 32 (Go.Operand.tmp 5) 1, type := 0, pos := "law.go:35", after := #[], guard := none }) (v := .pointer (some ⟨w.heap.size, 1, none⟩)) rfl (by kernel_rfl) (by kernel_rfl) (by kernel_rfl) (fun _ _ _ h => h) (Or.inl ⟨by rfl, fun w hS => by first | rfl | go_simp⟩) hH ?_
    simp only [Act.put, List.setIfInBounds_toArray, List.set_cons_zero, List.set_cons_succ]
    refine wpAnyH_take (i := 2) (oi := { dst := some 13, op := Go.Op.load 3 (Go.Operand.tmp 12), type := 3, pos := "law.go:35", after := #[{ on := 1, ground := Go.Ground.data }], guard := none }) (v := .int .i64 o.at_) rfl (by kernel_rfl) (by kernel_rfl) (by kernel_rfl) (fun _ _ _ h => h) (Or.inl ⟨by rfl, fun w hS => by have h1 := hS.cell 1; rw [ocells_1] at h1; go_simp⟩) hH ?_
    simp only [Act.put, List.setIfInBounds_toArray, List.set_cons_zero, List.set_cons_succ]
    refine wpAnyH_take (i := 3) (oi := { dst := some 14, op := Go.Op.fieldAddr 32 (Go.Operand.tmp 5) 3, type := 0, pos := "law.go:35", after := #[], guard := none }) (v := .pointer (some ⟨w.heap.size, 3, none⟩)) rfl (by kernel_rfl) (by kernel_rfl) (by kernel_rfl) (fun _ _ _ h => h) (Or.inl ⟨by rfl, fun w hS => by first | rfl | go_simp⟩) hH ?_
    simp only [Act.put, List.setIfInBounds_toArray, List.set_cons_zero, List.set_cons_succ]
    refine wpAnyH_take (i := 4) (oi := { dst := some 15, op := Go.Op.load 30 (Go.Operand.tmp 14), type := 30, pos := "law.go:35", after := #[{ on := 3, ground := Go.Ground.data }], guard := none }) (v := sec o.to) rfl (by kernel_rfl) (by kernel_rfl) (by kernel_rfl) (fun _ _ _ h => h) (Or.inl ⟨by rfl, fun w hS => exec_load_mid rfl rfl (ocells_mid hS) Try.underlying30 rfl (cells30L HOk.out.l)⟩) hH ?_
    simp only [Act.put, List.setIfInBounds_toArray, List.set_cons_zero, List.set_cons_succ]
    refine wpAnyH_take (i := 6) (oi := { dst := some 17, op := Go.Op.move (Go.Operand.tmp 1), type := 28, pos := "law.go:35", after := #[], guard := none }) (v := rP M) rfl (by kernel_rfl) (by kernel_rfl) (by kernel_rfl) (fun _ _ _ h => h) (Or.inl ⟨by rfl, fun w hS => by first | rfl | go_simp⟩) hH ?_
    simp only [Act.put, List.setIfInBounds_toArray, List.set_cons_zero, List.set_cons_succ]
    refine wpAnyH_take (i := 7) (oi := { dst := some 18, op := Go.Op.fieldAddr 32 (Go.Operand.tmp 5) 1, type := 0, pos := "law.go:35", after := #[], guard := none }) (v := .pointer (some ⟨w.heap.size, 1, none⟩)) rfl (by kernel_rfl) (by kernel_rfl) (by kernel_rfl) (fun _ _ _ h => h) (Or.inl ⟨by rfl, fun w hS => by first | rfl | go_simp⟩) hH ?_
    simp only [Act.put, List.setIfInBounds_toArray, List.set_cons_zero, List.set_cons_succ]
    refine wpAnyH_take (i := 8) (oi := { dst := some 19, op := Go.Op.load 3 (Go.Operand.tmp 18), type := 3, pos := "law.go:35", after := #[{ on := 7, ground := Go.Ground.data }], guard := none }) (v := .int .i64 o.at_) rfl (by kernel_rfl) (by kernel_rfl) (by kernel_rfl) (fun _ _ _ h => h) (Or.inl ⟨by rfl, fun w hS => by have h1 := hS.cell 1; rw [ocells_1] at h1; go_simp⟩) hH ?_
    simp only [Act.put, List.setIfInBounds_toArray, List.set_cons_zero, List.set_cons_succ]
    refine wpAnyH_take (i := 9) (oi := { dst := some 20, op := Go.Op.fieldAddr 32 (Go.Operand.tmp 5) 3, type := 0, pos := "law.go:35", after := #[], guard := none }) (v := .pointer (some ⟨w.heap.size, 3, none⟩)) rfl (by kernel_rfl) (by kernel_rfl) (by kernel_rfl) (fun _ _ _ h => h) (Or.inl ⟨by rfl, fun w hS => by first | rfl | go_simp⟩) hH ?_
    simp only [Act.put, List.setIfInBounds_toArray, List.set_cons_zero, List.set_cons_succ]
    refine wpAnyH_take (i := 10) (oi := { dst := some 21, op := Go.Op.load 30 (Go.Operand.tmp 20), type := 30, pos := "law.go:35", after := #[{ on := 9, ground := Go.Ground.data }], guard := none }) (v := sec o.to) rfl (by kernel_rfl) (by kernel_rfl) (by kernel_rfl) (fun _ _ _ h => h) (Or.inl ⟨by rfl, fun w hS => exec_load_mid rfl rfl (ocells_mid hS) Try.underlying30 rfl (cells30L HOk.out.l)⟩) hH ?_
    simp only [Act.put, List.setIfInBounds_toArray, List.set_cons_zero, List.set_cons_succ]
    refine wpAnyH_ready (rs := [5]) (by kernel_rfl) (by simp) ?_
    refine AllReadyH.cons (o := { dst := some 16, op := Go.Op.call { callee := Go.Callee.value (Go.Operand.func 16), args := #[Go.Operand.tmp 11, Go.Operand.tmp 13, Go.Operand.tmp 15], argTypes := #[23, 3, 35] }, type := 24, pos := "law.go:35", after := #[{ on := 0, ground := Go.Ground.data }, { on := 2, ground := Go.Ground.data }, { on := 4, ground := Go.Ground.data }], guard := none }) rfl (fun K hK => ?_) AllReadyH.nil
    go_simp
    refine (write_any g v s o.at_ o.to _ T1.out.is HOk.out.l HOk.out.b HST.out HQL.out).mono ?_
    rintro q w3 ⟨v', rfl, hs⟩
    have T3 := Kp.mk (T1.out.dev hs)
    have O3 : Kp (Blk w3 w.heap.size (.cells (ocells o).toArray 32)) := ⟨(hs.obj T1.out.is HO1.out (by decide) (by decide) (by decide)).trans HO1.out⟩
    rw [← HEE.out]
    clear hs
    refine hK.out _ _ (O3.out) (fun hHn => ?_)
    clear hK K hH
    have hH := hHn
    clear hHn
    try simp only [Act.put, List.setIfInBounds_toArray, List.set_cons_zero, List.set_cons_succ]
    refine wpAnyH_ready (rs := [11]) (by kernel_rfl) (by simp) ?_
    refine AllReadyH.cons (o := { dst := some 22, op := Go.Op.call { callee := Go.Callee.value (Go.Operand.func 36), args := #[Go.Operand.tmp 17, Go.Operand.tmp 19, Go.Operand.tmp 21], argTypes := #[28, 3, 30] }, type := 3, pos := "law.go:35", after := #[{ on := 6, ground := Go.Ground.data }, { on := 8, ground := Go.Ground.data }, { on := 10, ground := Go.Ground.data }, { on := 5, ground := Go.Ground.chain }], guard := none }) rfl (fun K hK => ?_) AllReadyH.nil
    go_simp
    refine (rwrite_any M v1 v2 r o.at_ o.to _ T3.out.ir HOk.out.l HOk.out.b HRT.out HRQ.out).mono ?_
    rintro q w4 ⟨v2', rfl, hs⟩
    have T4 := Kp.mk (T3.out.doc hs)
    have O4 : Kp (Blk w4 w.heap.size (.cells (ocells o).toArray 32)) := ⟨(hs.obj T3.out.ir O3.out (by decide) (by decide)).trans O3.out⟩
    rw [HEW.out]
    clear hs
    refine hK.out _ _ (O4.out) (fun hHn => ?_)
    clear hK K hH
    have hH := hHn
    clear hHn
    try simp only [Act.put, List.setIfInBounds_toArray, List.set_cons_zero, List.set_cons_succ]
    refine wpAnyH_take (i := 12) (oi := { dst := some 23, op := Go.Op.binOp Go.BinOp.eql 3 (Go.Operand.tmp 16) (Go.Operand.tmp 22) 3, type := 4, pos := "law.go:35", after := #[{ on := 5, ground := Go.Ground.data }, { on := 11, ground := Go.Ground.data }], guard := none }) (v := .bool true) rfl (by kernel_rfl) (by kernel_rfl) (by kernel_rfl) (fun _ _ _ h => h) (Or.inl ⟨by rfl, fun w hS => by go_simp⟩) hH ?_
    simp only [Act.put, List.setIfInBounds_toArray, List.set_cons_zero, List.set_cons_succ]
    refine wpAnyH_take (i := 13) (oi := { dst := some 6, op := Go.Op.assign (Go.Operand.tmp 23), type := 4, pos := "law.go:35", after := #[{ on := 12, ground := Go.Ground.data }, { on := 11, ground := Go.Ground.chain }, { on := 0, ground := Go.Ground.phase }, { on := 1, ground := Go.Ground.phase }, { on := 2, ground := Go.Ground.phase }, { on := 3, ground := Go.Ground.phase }, { on := 4, ground := Go.Ground.phase }, { on := 5, ground := Go.Ground.phase }, { on := 6, ground := Go.Ground.phase }, { on := 7, ground := Go.Ground.phase }, { on := 8, ground := Go.Ground.phase }, { on := 9, ground := Go.Ground.phase }, { on := 10, ground := Go.Ground.phase }, { on := 11, ground := Go.Ground.phase }, { on := 12, ground := Go.Ground.phase }], guard := none }) (v := .bool true) rfl (by kernel_rfl) (by kernel_rfl) (by kernel_rfl) (fun _ _ _ h => h) (Or.inl ⟨by rfl, fun w hS => by first | rfl | go_simp⟩) hH ?_
    simp only [Act.put, List.setIfInBounds_toArray, List.set_cons_zero, List.set_cons_succ]
    clear hH
    refine wpAnyH_done (by kernel_rfl) ?_ _
    go_wp2_with fail
    go_ret
    exact ⟨rfl, _, _, _, _, _, T4.out.is, T4.out.ir, HREL.out, T4.out.below, HBD.out⟩
  · by_cases k1 : o.kind = 1
    · have HFW : Kp (rFlushE r = flushE s ∧ Rel (flushS s) (rFlushS r)) := ⟨HREL0.out.flush H.out.is.k⟩
      clear ho k0
      go_enter Try.func12, Try.ntmps12
      go_wp2_with (refine wpList_box_eq rfl 32 (.tmp 2) rfl _ rfl _ _ (hC _) ?_; refine wpl_world (w := w.alloc (.cells (ocells o).toArray 32)) (fun w2 => Blk w2 w.heap.size (.cells (ocells o).toArray 32) ∧ Below w.heap.size w w2) (hBX.out _ rfl) ?_; rintro W1 ⟨h1, h2⟩; have HO := Kp.mk h1; have T1 := Kp.mk (H.out.keep h2); have c0 : W1.cell? ⟨w.heap.size, 0, none⟩ = some (.int .i64 o.kind) := (by rw [h1.cell 0]; rfl); clear h1 h2 hC)
      refine (flush_any g v s _ T1.out.is HST.out HQL.out).mono ?_
      rintro q w3 ⟨v', rfl, hs⟩
      have T3 := Kp.mk (T1.out.dev hs)
      clear hs c0
      go_wp2_with fail
      refine (rflush_any M v1 v2 r _ T3.out.ir HRT.out HQS.out).mono ?_
      rintro q w4 ⟨rfl, v1', v2', hs⟩
      have T4 := Kp.mk (T3.out.doc hs)
      rw [HFW.out.1]
      clear hs
      generalize flushE s = ee
      go_wp2_with fail
      go_ret
      exact ⟨rfl, _, _, _, _, _, T4.out.is, T4.out.ir, HFW.out.2, T4.out.below, bds_flush s r⟩
    · by_cases k2 : o.kind = 2
      · clear k0 k1
        have hn := ho.n
        unfold I64 at hn
        have HN := Kp.mk hn
        cases hd : s.dn with
        | true =>
          have HD := Kp.mk hd
          clear ho hd
          go_enter Try.func12, Try.ntmps12
          go_wp2_with (refine wpList_box_eq rfl 32 (.tmp 2) rfl _ rfl _ _ (hC _) ?_; refine wpl_world (w := w.alloc (.cells (ocells o).toArray 32)) (fun w2 => Blk w2 w.heap.size (.cells (ocells o).toArray 32) ∧ Below w.heap.size w w2) (hBX.out _ rfl) ?_; rintro W1 ⟨h1, h2⟩; have HO := Kp.mk h1; have T1 := Kp.mk (H.out.keep h2); have c0 : W1.cell? ⟨w.heap.size, 0, none⟩ = some (.int .i64 o.kind) := (by rw [h1.cell 0]; rfl); have c2 : W1.cell? ⟨w.heap.size, 2, none⟩ = some (.int .i64 o.n) := (by rw [h1.cell 2]; rfl); have c4 := T1.out.ir.cells.1.2.2.2.2.1; have c3 := T1.out.ir.cells.1.2.2.2.1; have f3 := T1.out.ir.cells.2 3; have hlt := T1.out.ir.lt; rw [HREL0.out.dn, HD.out] at c4; clear h1 h2 hC)
          refine (fuse_any g v s o.n _ T1.out.is HN.out).mono ?_
          rintro q w3 ⟨rfl, hs⟩
          have T3 := Kp.mk (T1.out.dev hs)
          have HFS : Kp (fuseS s o.n = s) := ⟨by unfold fuseS; rw [HD.out]; rfl⟩
          rw [HD.out]
          clear hs c0 c2
          go_wp2_with fail
          go_ret
          exact ⟨rfl, _, _, _, s, r, by have := T3.out.is; rw [HFS.out] at this; exact this, T3.out.ir, HREL0.out, T3.out.below, ⟨by omega, by omega, by omega, rfl⟩⟩
        | false =>
          have HD := Kp.mk hd
          have HF := Kp.mk (HREL0.out.fuse hd o.n)
          have hm1 : max o.n (-1) ≤ 9223372036854775807 := by omega
          clear ho hd
          go_enter Try.func12, Try.ntmps12
          go_wp2_with (refine wpList_box_eq rfl 32 (.tmp 2) rfl _ rfl _ _ (hC _) ?_; refine wpl_world (w := w.alloc (.cells (ocells o).toArray 32)) (fun w2 => Blk w2 w.heap.size (.cells (ocells o).toArray 32) ∧ Below w.heap.size w w2) (hBX.out _ rfl) ?_; rintro W1 ⟨h1, h2⟩; have HO := Kp.mk h1; have T1 := Kp.mk (H.out.keep h2); have c0 : W1.cell? ⟨w.heap.size, 0, none⟩ = some (.int .i64 o.kind) := (by rw [h1.cell 0]; rfl); have c2 : W1.cell? ⟨w.heap.size, 2, none⟩ = some (.int .i64 o.n) := (by rw [h1.cell 2]; rfl); have c4 := T1.out.ir.cells.1.2.2.2.2.1; have c3 := T1.out.ir.cells.1.2.2.2.1; have f3 := T1.out.ir.cells.2 3; have hlt := T1.out.ir.lt; rw [HREL0.out.dn, HD.out] at c4; clear h1 h2 hC)
          have T2 : Kp (Two B g M w (W1.setCell ⟨M, 3, none⟩ (.int .i64 (max o.n (-1)))) v v1 v2 s { r with fu := max o.n (-1) }) := ⟨T1.out.doc (RStep.turn T1.out.ir (((Turn.same T1.out.ir.b).set 3 _).as rfl) rfl rfl ⟨T1.out.ir.k.n1, T1.out.ir.k.q1, T1.out.ir.k.s1, T1.out.ir.k.st, (show I64 (max o.n (-1)) by have := HN.out; unfold I64; omega), T1.out.ir.k.ql, T1.out.ir.k.sl⟩)⟩
          clear c0 c2 c3 c4 f3 hlt
          generalize (W1.setCell ⟨M, 3, none⟩ (.int .i64 (max o.n (-1)))) = W2 at T2 ⊢
          refine (fuse_any g v s o.n _ T2.out.is HN.out).mono ?_
          rintro q w3 ⟨rfl, hs⟩
          have T3 := Kp.mk (T2.out.dev hs)
          rw [HD.out]
          clear hs
          go_wp2_with fail
          go_ret
          exact ⟨rfl, _, _, _, _, _, T3.out.is, T3.out.ir, HF.out, T3.out.below, by
            have h := fuseS_same s o.n
            exact ⟨by rw [h.2.2.2]; omega, by rw [h.2.1]; omega, by show r.sure.length ≤ _; omega, h.2.2.1⟩⟩
      · by_cases k3 : o.kind = 3
        · have HRC : Kp (Rel (crashS s o.n o.at_) (rCrashS r o.n o.at_)) := ⟨HREL0.out.crash H.out.is.k o.n o.at_⟩
          clear ho k0 k1 k2
          go_enter Try.func12, Try.ntmps12
          go_wp2_with (refine wpList_box_eq rfl 32 (.tmp 2) rfl _ rfl _ _ (hC _) ?_; refine wpl_world (w := w.alloc (.cells (ocells o).toArray 32)) (fun w2 => Blk w2 w.heap.size (.cells (ocells o).toArray 32) ∧ Below w.heap.size w w2) (hBX.out _ rfl) ?_; rintro W1 ⟨h1, h2⟩; have HO := Kp.mk h1; have T1 := Kp.mk (H.out.keep h2); have c0 : W1.cell? ⟨w.heap.size, 0, none⟩ = some (.int .i64 o.kind) := (by rw [h1.cell 0]; rfl); have c1 : W1.cell? ⟨w.heap.size, 1, none⟩ = some (.int .i64 o.at_) := (by rw [h1.cell 1]; rfl); have c2 : W1.cell? ⟨w.heap.size, 2, none⟩ = some (.int .i64 o.n) := (by rw [h1.cell 2]; rfl); clear h1 h2 hC)
          refine (rcrash_any M v1 v2 r o.n o.at_ _ T1.out.ir HQS.out).mono ?_
          rintro q w3 ⟨⟨u, rfl⟩, v1', v2', hs⟩
          have T3 := Kp.mk (T1.out.doc hs)
          have O3 : Kp (Blk w3 w.heap.size (.cells (ocells o).toArray 32)) := ⟨(hs.obj T1.out.ir HO.out (by decide) (by decide)).trans HO.out⟩
          have d1 : w3.cell? ⟨w.heap.size, 1, none⟩ = some (.int .i64 o.at_) := by rw [O3.out.cell 1]; rfl
          have d2 : w3.cell? ⟨w.heap.size, 2, none⟩ = some (.int .i64 o.n) := by rw [O3.out.cell 2]; rfl
          clear hs c0 c1 c2
          go_wp2_with fail
          refine (crash_any g v s o.n o.at_ _ T3.out.is HQL.out).mono ?_
          rintro q w4 ⟨v', rfl, hs⟩
          have T4 := Kp.mk (T3.out.dev hs)
          clear hs d1 d2
          go_wp2_with fail
          go_ret
          exact ⟨rfl, _, _, _, _, _, T4.out.is, T4.out.ir, HRC.out, T4.out.below, bds_crash s r o.n o.at_⟩
        · have e0 : (o.kind == 0) = false := by simp [k0]
          have e1 : (o.kind == 1) = false := by simp [k1]
          have e2 : (o.kind == 2) = false := by simp [k2]
          have e3 : (o.kind == 3) = false := by simp [k3]
          clear ho
          go_enter Try.func12, Try.ntmps12
          go_wp2_with (refine wpList_box_eq rfl 32 (.tmp 2) rfl _ rfl _ _ (hC _) ?_; refine wpl_world (w := w.alloc (.cells (ocells o).toArray 32)) (fun w2 => Blk w2 w.heap.size (.cells (ocells o).toArray 32) ∧ Below w.heap.size w w2) (hBX.out _ rfl) ?_; rintro W1 ⟨h1, h2⟩; have HO := Kp.mk h1; have T1 := Kp.mk (H.out.keep h2); have c0 : W1.cell? ⟨w.heap.size, 0, none⟩ = some (.int .i64 o.kind) := (by rw [h1.cell 0]; rfl); clear h1 h2 hC)
          go_ret
          exact ⟨rfl, _, _, _, s, r, T1.out.is, T1.out.ir, HREL0.out, T1.out.below, ⟨by omega, by omega, by omega, rfl⟩⟩
end Go.Proofs.Ytgikedbnnlckjaa
