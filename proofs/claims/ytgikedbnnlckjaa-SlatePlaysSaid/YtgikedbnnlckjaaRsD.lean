/-
  layer 14: the document's Write, Read.
-/
import Derived.Test.YtgikedbnnlckjaaRsC
namespace Go.Proofs.Ytgikedbnnlckjaa
open Go.RowKit

theorem built98 {k : Nat} {z : List Int} (h : z.length = 64) : Try.prog.built 98 [(0, .int .i64 k), (1, sec z)] = some (wcells (k, z)).toArray := by
  obtain ⟨f, rfl⟩ := list64 h
  kernel_rfl
theorem exec_build98 {o : Oper} {a : Act} {w : World} {x y : Operand} {k : Nat} {z : List Int} (hz : z.length = 64) (ho : o.op = .build 98 #[(0, x), (1, y)]) (hx : a.eval x = .int .i64 k) (hy : a.eval y = sec z) :
    (execOp a.eval o).run Try.prog w = .ok (.value (.agg (wcells (k, z)).toArray)) w := by
  have h := run_build (P := Try.prog) w 98 #[(0, .int .i64 k), (1, sec z)] _ (built98 hz)
  unfold execOp
  simp only [ho, List.map_toArray, List.map_cons, List.map_nil, hx, hy, Sem.run_bind, h, Result.andThen_ok, Sem.run_pure]
/-- Behind append to the queue, and the store of what it gave. -/
theorem RStep.app {M k g' cap : Nat} {v1 v2 : Value} {r : RlS} {z : List Int} {w w3 : World} {o : Obj} (h : RlIs w M v1 v2 r) (hz : z.length = 64) (hzb : Bytes z) (hq : r.q.length + 1 ≤ 1000000)
    (h1 : w3.ownsRow (M + 1) 98 65 (.slice (some ⟨g', 0, none⟩) (r.q.length + 1) cap) (r.q.length + 1) (qcells r.q ++ wcells (k, z))) (h2 : (w.drew.alloc o).grownBy w3 v2.ownBlock) (h3 : v2.ownBlock = some g' ∨ g' = w.heap.size + 1) :
    RStep M v1 v2 v1 (.slice (some ⟨g', 0, none⟩) (r.q.length + 1) cap) { r with q := r.q ++ [(k, z)] } w (w3.setCell ⟨M, 2, none⟩ (.slice (some ⟨g', 0, none⟩) (r.q.length + 1) cap)) := by
  obtain ⟨v2', hv'⟩ : ∃ v', v' = Value.slice (some ⟨g', 0, none⟩) (r.q.length + 1) cap := ⟨_, rfl⟩
  have hown : v2'.ownBlock = some g' := by rw [hv']; rfl
  rw [← hv'] at h1 ⊢
  have ha : Below w.heap.size w (w.drew.alloc o) := (show Below w.heap.size w w.drew from ⟨rfl, rfl, rfl, Nat.le_refl _, fun _ _ => rfl⟩).alloc (Nat.le_refl _) o
  have hA := h.keep ha
  have hlt := h.lt
  have e3 : w.heap.size + 1 ≤ w3.heap.size := by have := h2.size; rw [drew_alloc_size] at this; exact this
  have hb3 : Blk w3 M (rObj v1 v2 r) := (h2.block M (by rw [drew_alloc_size]; omega) (own_ne (show (w.drew.alloc o).heap[M]? = _ from hA.b) hA.o2 (by decide))).trans hA.b
  have ho1 : w3.ownsRow (M + 1) 98 65 v1 r.sure.length (qcells r.sure) := ownsRow_same hA.o1 fun q hq2 => by
    have := (h.o1.lt q hq2).2
    exact h2.block q (by rw [drew_alloc_size]; omega) (fun e => h.ne q hq2 e.symm)
  have hT : Turn M (rObj v1 v2' { r with q := r.q ++ [(k, z)] }) w3 (w3.setCell ⟨M, 2, none⟩ v2') := ((Turn.same hb3).set 2 _).as rfl
  refine ⟨hT.os.trans h2.os, hT.tape.trans h2.tape, hT.output.trans h2.output, Nat.le_trans (by omega) hT.size, ⟨hT.blk, ownsRow_turn ho1 hT (by omega), ?_, fun q e1 e2 => ?_, ⟨h.k.n1, fun x hx => ?_, h.k.s1, h.k.st, h.k.fr, by rw [List.length_append, List.length_singleton]; exact hq, h.k.sl⟩⟩, fun q hq2 n1 n2 n3 => ?_, fun q hq2 => ?_⟩
  · rw [List.length_append, List.length_singleton, qcells_add]
    exact ownsRow_turn h1 hT (by omega)
  · have hql := (h.o1.lt q e1).2
    rw [hown] at e2
    cases e2
    rcases h3 with h3 | h3
    · exact h.ne _ e1 h3
    · omega
  · rcases List.mem_append.1 hx with hx | hx
    · exact h.k.q1 x hx
    · rw [List.mem_singleton.1 hx]; exact ⟨hz, hzb⟩
  · exact (hT.other q (by omega) n1).trans ((h2.block q (by rw [drew_alloc_size]; omega) (fun e => n3 e.symm)).trans (ha.block q hq2))
  · rcases hq2 with e | e
    · exact .inl (.inl e)
    · rw [hown] at e
      cases e
      rcases h3 with h3 | h3
      · exact .inl (.inr h3)
      · exact .inr (by omega)
def rHas (r : RlS) (a : Int) : Int := if r.dn then 5 else if 0 ≤ a ∧ a < r.n then 0 else 1
def rWriteE (r : RlS) (a : Int) : Int := if rHas r a = 0 then (if r.fu = 0 then 5 else 0) else rHas r a
def rWriteS (r : RlS) (a : Int) (z : List Int) : RlS := if rHas r a = 0 then (if r.fu = 0 then rStep r else { rStep r with q := r.q ++ [(a.toNat, z)] }) else r
theorem rStep_same (r : RlS) : (rStep r).q = r.q ∧ (rStep r).sure = r.sure ∧ (rStep r).n = r.n := by unfold rStep; split <;> exact ⟨rfl, rfl, rfl⟩
set_option maxRecDepth 100000 in
set_option maxHeartbeats 4000000 in
theorem rwrite_any (M : Nat) (v1 v2 : Value) (r : RlS) (a : Int) (z : List Int) (w : World) (h : RlIs w M v1 v2 r) (hz : z.length = 64) (hzb : Bytes z) (hst : r.st + 1 ≤ 1000000) (hq : r.q.length + 1 ≤ 1000000) :
    Calls Try.prog 36 #[rP M, .int .i64 a, sec z] w fun e w' => ∃ v2', e = .returned (.int .i64 (rWriteE r a)) ∧ RStep M v1 v2 v1 v2' (rWriteS r a z) w w' := by
  have H := Kp.mk h
  have HZl := Kp.mk hz
  have HZb := Kp.mk hzb
  have HST := Kp.mk hst
  have HQ0 := Kp.mk hq
  obtain ⟨i0, hi98, hz0, hz1, hz2⟩ := info_parts info98
  have hC := fun (w : World) => box_row (t := 30) (cs := kv .u8 z) (cells30 hz) w
  obtain ⟨F, hF⟩ : ∃ F, F = w.heap.size := ⟨_, rfl⟩
  have HF := Kp.mk hF
  have HMF : Kp (M < F) := ⟨by rw [hF]; exact h.lt⟩
  have HOWN : Kp (v1.ownBlock ≠ some F ∧ v2.ownBlock ≠ some F) := ⟨⟨fun e => by have := (h.o1.lt F e).2; omega, fun e => by have := (h.o2.lt F e).2; omega⟩⟩
  have hBOX : Kp (∀ W : World, W = w.alloc (.cells (kv .u8 z).toArray 30) → Row W F 30 .u8 z ∧ Below w.heap.size w W) := ⟨by rintro W rfl; exact ⟨Blk.newAt _ HF.out, more (Below.refl _ _) _⟩⟩
  clear hz hzb hst hq
  cases hd : r.dn with
  | true =>
    have HE : Kp ((5 : Int) = rWriteE r a ∧ rWriteS r a z = r) := ⟨by unfold rWriteE rWriteS rHas; simp [hd]⟩
    have HD := Kp.mk hd
    clear hd h
    go_enter Try.func36, Try.ntmps36
    go_wp2_with (refine wpList_box_eq rfl 30 (.tmp 2) rfl _ rfl _ _ (hC _) ?_; rw [← hF]; refine wpl_world (w := w.alloc (.cells (kv .u8 z).toArray 30)) (fun w2 => Row w2 F 30 .u8 z ∧ Below w.heap.size w w2) (hBOX.out _ rfl) ?_; rintro W1 ⟨h1, h2⟩; have G2 := Kp.mk h1; have K2 := Kp.mk h2; have H1 := Kp.mk (H.out.keep h2); have c4 := (H.out.keep h2).cells.1.2.2.2.2.1; rw [HD.out] at c4; clear h1 h2 hF hC)
    go_ret
    exact ⟨v2, reti HE.out.1, by rw [HE.out.2]; exact RStep.same H.out K2.out⟩
  | false =>
    have HD := Kp.mk hd
    clear h
    by_cases ha : 0 ≤ a ∧ a < r.n
    · have HE : Kp (rWriteE r a = (if r.fu = 0 then 5 else 0) ∧ rWriteS r a z = (if r.fu = 0 then rStep r else { rStep r with q := r.q ++ [(a.toNat, z)] })) := ⟨by unfold rWriteE rWriteS rHas; simp [hd, ha]⟩
      obtain ⟨ha0, ha1⟩ := ha
      obtain ⟨k, rfl⟩ : ∃ k : Nat, a = k := ⟨a.toNat, by omega⟩
      have ha2 : ¬ (r.n : Int) ≤ (k : Int) := by omega
      clear hd
      go_enter Try.func36, Try.ntmps36
      go_wp2_with (refine wpList_box_eq rfl 30 (.tmp 2) rfl _ rfl _ _ (hC _) ?_; rw [← hF]; refine wpl_world (w := w.alloc (.cells (kv .u8 z).toArray 30)) (fun w2 => Row w2 F 30 .u8 z ∧ Below w.heap.size w w2) (hBOX.out _ rfl) ?_; rintro W1 ⟨h1, h2⟩; have G2a := Kp.mk h1; have K2 := Kp.mk h2; have H1 := Kp.mk (H.out.keep h2); have c4 := (H.out.keep h2).cells.1.2.2.2.2.1; rw [HD.out] at c4; have c0 := (H.out.keep h2).cells.1.1; clear h1 h2 hF hC)
      refine (power_any M v1 v2 r _ H1.out HST.out).mono ?_
      rintro e wr ⟨rfl, hs⟩
      have HS2 := Kp.mk (RStep.trans (RStep.same H.out K2.out) hs)
      have G2 : Kp (Row wr F 30 .u8 z) := ⟨(hs.other F G2a.out.lt (by have := HMF.out; omega) HOWN.out.1 HOWN.out.2).trans G2a.out⟩
      clear hs c4 c0
      by_cases hfu : r.fu = 0
      · have HW : Kp ((5 : Int) = rWriteE r (k : Nat) ∧ rWriteS r (k : Nat) z = rStep r) := ⟨by rw [HE.out.1, HE.out.2, if_pos hfu, if_pos hfu]; exact ⟨rfl, rfl⟩⟩
        rw [show (r.fu != 0) = false by simp [hfu]]
        clear hfu
        go_wp2_with fail
        go_ret
        exact ⟨v2, reti HW.out.1, by rw [HW.out.2]; exact HS2.out⟩
      · have HW : Kp (rWriteE r (k : Nat) = 0 ∧ rWriteS r (k : Nat) z = { rStep r with q := (rStep r).q ++ [(k, z)] }) := ⟨by rw [HE.out.1, HE.out.2, if_neg hfu, if_neg hfu, (rStep_same r).1]; exact ⟨rfl, by simp⟩⟩
        rw [show (r.fu != 0) = true by simp [hfu]]
        have HQ : Kp ((rStep r).q.length + 1 ≤ 1000000) := ⟨by rw [(rStep_same r).1]; exact HQ0.out⟩
        clear hfu HE
        generalize rStep r = r1 at *
        have G1 := Kp.mk HS2.out.is
        have G1D : Kp (RlIs wr.drew M v1 v2 r1) := ⟨G1.out.keep ⟨rfl, rfl, rfl, Nat.le_refl _, fun _ _ => rfl⟩⟩
        go_wp2_with fail
        refine wp_region_any (by kernel_rfl) ?_
        change wpAny _ _ _ _ _ _ _ (World.drew _)
        refine wpAny_take (i := 0) (oi := { dst := some 24, op := Go.Op.move (Go.Operand.tmp 0), type := 28, pos := "ref.go:80", after := #[], guard := none }) (v := rP M) rfl (by kernel_rfl) (by kernel_rfl) (by kernel_rfl) (fun _ _ _ h => h) (Or.inl ⟨by rfl, fun w => by go_simp⟩) ?_
        simp only [Act.put, List.setIfInBounds_toArray, List.set_cons_zero, List.set_cons_succ]
        refine wpAny_take (i := 1) (oi := { dst := some 25, op := Go.Op.move (Go.Operand.tmp 0), type := 28, pos := "ref.go:80", after := #[], guard := none }) (v := rP M) rfl (by kernel_rfl) (by kernel_rfl) (by kernel_rfl) (fun _ _ _ h => h) (Or.inl ⟨by rfl, fun w => by go_simp⟩) ?_
        simp only [Act.put, List.setIfInBounds_toArray, List.set_cons_zero, List.set_cons_succ]
        refine wpAny_take (i := 2) (oi := { dst := some 26, op := Go.Op.nilCheck (Go.Operand.tmp 25), type := 0, pos := "ref.go:80", after := #[{ on := 1, ground := Go.Ground.data }], guard := none }) (v := rP M) rfl (by kernel_rfl) (by kernel_rfl) (by kernel_rfl) (fun _ _ _ h => h) (Or.inl ⟨by rfl, fun w => by go_simp⟩) ?_
        simp only [Act.put, List.setIfInBounds_toArray, List.set_cons_zero, List.set_cons_succ]
        refine wpAny_take (i := 3) (oi := { dst := some 27, op := Go.Op.fieldAddr 75 (Go.Operand.tmp 26) 2, type := 0, pos := "ref.go:80", after := #[{ on := 2, ground := Go.Ground.data }], guard := none }) (v := .pointer (some ⟨M, 2, none⟩)) rfl (by kernel_rfl) (by kernel_rfl) (by kernel_rfl) (fun _ _ _ h => h) (Or.inl ⟨by rfl, fun w => by go_simp⟩) ?_
        simp only [Act.put, List.setIfInBounds_toArray, List.set_cons_zero, List.set_cons_succ]
        refine wpAny_take (i := 5) (oi := { dst := some 29, op := Go.Op.move (Go.Operand.tmp 1), type := 3, pos := "ref.go:80", after := #[], guard := none }) (v := .int .i64 (k : Nat)) rfl (by kernel_rfl) (by kernel_rfl) (by kernel_rfl) (fun _ _ _ h => h) (Or.inl ⟨by rfl, fun w => by go_simp⟩) ?_
        simp only [Act.put, List.setIfInBounds_toArray, List.set_cons_zero, List.set_cons_succ]
        refine wpAny_ready (rs := [4, 6]) (by kernel_rfl) (by simp) ?_
        refine AllReady.cons (o := { dst := some 28, op := Go.Op.load 73 (Go.Operand.tmp 27), type := 73, pos := "ref.go:80", after := #[{ on := 3, ground := Go.Ground.data }], guard := none }) rfl (fun K hK => ?_) (AllReady.cons (o := { dst := some 30, op := Go.Op.load 30 (Go.Operand.tmp 5), type := 30, pos := "ref.go:80", after := #[], guard := none }) rfl (fun K hK => ?_) AllReady.nil)
        · have hc1 : wr.drew.cell? ⟨M, 2, none⟩ = some v2 := G1.out.cells.1.2.2.1
          have hc2 := G1.out.cells.1.2.2.1
          have hl1 : M < wr.drew.heap.size := G1.out.lt
          have hl2 := G1.out.lt
          go_simp
          clear hc1 hc2 hl1 hl2
          refine hK _ _ ?_
          clear hK K
          try simp only [Act.put, List.setIfInBounds_toArray, List.set_cons_zero, List.set_cons_succ]
          refine wpAny_ready (rs := [6]) (by kernel_rfl) (by simp) ?_
          refine AllReady.cons (o := { dst := some 30, op := Go.Op.load 30 (Go.Operand.tmp 5), type := 30, pos := "ref.go:80", after := #[], guard := none }) rfl (fun K hK => ?_) AllReady.nil
          rw [if_pos (by rfl)]
          refine wp_load_row 30 (.tmp 5) rfl F rfl 30 _ (0, 0) _ (G2.out.drew) Try.underlying30 rfl (cells30 HZl.out) ?_
          refine hK _ _ ?_
          clear hK K
          try simp only [Act.put, List.setIfInBounds_toArray, List.set_cons_zero, List.set_cons_succ]
          refine wpAny_take (i := 7) (oi := { dst := some 31, op := Go.Op.build 98 #[(0, Go.Operand.tmp 29), (1, Go.Operand.tmp 30)], type := 98, pos := "ref.go:80", after := #[{ on := 5, ground := Go.Ground.data }, { on := 6, ground := Go.Ground.data }], guard := none }) (v := .agg (wcells (k, z)).toArray) rfl (by kernel_rfl) (by kernel_rfl) (by kernel_rfl) (fun _ _ _ h => h) (Or.inl ⟨by rfl, fun w => exec_build98 HZl.out rfl rfl rfl⟩) ?_
          simp only [Act.put, List.setIfInBounds_toArray, List.set_cons_zero, List.set_cons_succ]
          refine wpAny_ready (rs := [8]) (by kernel_rfl) (by simp) ?_
          refine AllReady.cons (o := { dst := some 32, op := Go.Op.buildSlice 73 1 #[(0, Go.Operand.tmp 31)], type := 73, pos := "ref.go:80", after := #[{ on := 7, ground := Go.Ground.data }], guard := none }) rfl (fun K hK => ?_) AllReady.nil
          rw [if_pos (by rfl)]
          refine wp_buildSlice_one 73 1 (.tmp 31) rfl (.agg (wcells (k, z)).toArray) rfl _ _ (build73 HZl.out wr.drew) ?_
          refine hK _ _ ?_
          clear hK K
          try simp only [Act.put, List.setIfInBounds_toArray, List.set_cons_zero, List.set_cons_succ]
          refine wpAny_ready (rs := [9]) (by kernel_rfl) (by simp) ?_
          refine AllReady.cons (o := { dst := some 33, op := Go.Op.call { callee := Go.Callee.builtin Go.Builtin.append, args := #[Go.Operand.tmp 28, Go.Operand.tmp 32], argTypes := #[73, 73] }, type := 73, pos := "ref.go:80", after := #[{ on := 4, ground := Go.Ground.data }, { on := 8, ground := Go.Ground.data }], guard := none }) rfl (fun K hK => ?_) AllReady.nil
          refine step_append_lies _ rfl (.tmp 28) (.tmp 32) 73 rfl (M + 1) 98 i0 (.agg z82.toArray) 65 72 Try.underlying73 hi98 hz0 hz1 hz2 rfl (by decide) v2 r1.q.length (qcells r1.q) rfl (G1D.out.keep (more (Below.refl _ _) _)).o2 ⟨wr.drew.heap.size, 0, none⟩ 1 1 (wcells (k, z)) rfl ?d9 ?d0 ?d1 (by decide) ?d3 ?d4 ?d5 (wr.heap.size + 1) ?d6 ?_
          case d9 => rw [wcells_len HZl.out]
          case d0 => exact World.news_of_block (Blk.new wr.drew (.cells (wcells (k, z)).toArray 98))
          case d1 => exact wcells_one (k, z)
          case d3 => have := HQ.out; unfold maxLen; omega
          case d4 => have := HQ.out; omega
          case d5 => have := G1.out.lt; rw [drew_alloc_size]; omega
          case d6 => exact drew_alloc_size _ _
          intro g' cap2 w3 ho hg hv hlt
          have HAP := Kp.mk (RStep.app (k := k) (z := z) G1.out HZl.out HZb.out HQ.out ho hg hv)
          have HC3 : Kp (w3.cell? ⟨M, 2, none⟩ = some v2 ∧ w3.frozen? ⟨M, 2, none⟩ = false) := ⟨(by
            have e := (hg.block M (by have := G1.out.lt; rw [drew_alloc_size]; omega) (own_ne (show (wr.drew.alloc (.cells (wcells (k, z)).toArray 98)).heap[M]? = _ from (G1D.out.keep (more (Below.refl _ _) _)).b) (G1D.out.keep (more (Below.refl _ _) _)).o2 (by decide))).trans (G1D.out.keep (more (Below.refl _ _) (.cells (wcells (k, z)).toArray 98))).b
            exact ⟨Blk.cell e 2, Blk.frozen e 2⟩)⟩
          clear ho hg hv hlt
          refine hK _ _ ?_
          clear hK K
          try simp only [Act.put, List.setIfInBounds_toArray, List.set_cons_zero, List.set_cons_succ]
          refine wpAny_take (i := 10) (oi := { dst := some 34, op := Go.Op.nilCheck (Go.Operand.tmp 24), type := 0, pos := "ref.go:80", after := #[{ on := 0, ground := Go.Ground.data }, { on := 0, ground := Go.Ground.phase }, { on := 1, ground := Go.Ground.phase }, { on := 2, ground := Go.Ground.phase }, { on := 3, ground := Go.Ground.phase }, { on := 4, ground := Go.Ground.phase }, { on := 5, ground := Go.Ground.phase }, { on := 6, ground := Go.Ground.phase }, { on := 7, ground := Go.Ground.phase }, { on := 8, ground := Go.Ground.phase }, { on := 9, ground := Go.Ground.phase }], guard := none }) (v := rP M) rfl (by kernel_rfl) (by kernel_rfl) (by kernel_rfl) (fun _ _ _ h => h) (Or.inl ⟨by rfl, fun w => by go_simp⟩) ?_
          simp only [Act.put, List.setIfInBounds_toArray, List.set_cons_zero, List.set_cons_succ]
          refine wpAny_take (i := 11) (oi := { dst := some 35, op := Go.Op.fieldAddr 75 (Go.Operand.tmp 34) 2, type := 0, pos := "ref.go:80", after := #[{ on := 10, ground := Go.Ground.data }, { on := 0, ground := Go.Ground.phase }, { on := 1, ground := Go.Ground.phase }, { on := 2, ground := Go.Ground.phase }, { on := 3, ground := Go.Ground.phase }, { on := 4, ground := Go.Ground.phase }, { on := 5, ground := Go.Ground.phase }, { on := 6, ground := Go.Ground.phase }, { on := 7, ground := Go.Ground.phase }, { on := 8, ground := Go.Ground.phase }, { on := 9, ground := Go.Ground.phase }], guard := none }) (v := .pointer (some ⟨M, 2, none⟩)) rfl (by kernel_rfl) (by kernel_rfl) (by kernel_rfl) (fun _ _ _ h => h) (Or.inl ⟨by rfl, fun w => by go_simp⟩) ?_
          simp only [Act.put, List.setIfInBounds_toArray, List.set_cons_zero, List.set_cons_succ]
          refine wpAny_ready (rs := [12]) (by kernel_rfl) (by simp) ?_
          refine AllReady.cons (o := { dst := none, op := Go.Op.store 73 (Go.Operand.tmp 35) (Go.Operand.tmp 33), type := 0, pos := "ref.go:80", after := #[{ on := 11, ground := Go.Ground.data }, { on := 9, ground := Go.Ground.data }, { on := 9, ground := Go.Ground.chain }, { on := 0, ground := Go.Ground.phase }, { on := 1, ground := Go.Ground.phase }, { on := 2, ground := Go.Ground.phase }, { on := 3, ground := Go.Ground.phase }, { on := 4, ground := Go.Ground.phase }, { on := 5, ground := Go.Ground.phase }, { on := 6, ground := Go.Ground.phase }, { on := 7, ground := Go.Ground.phase }, { on := 8, ground := Go.Ground.phase }, { on := 9, ground := Go.Ground.phase }], guard := none }) rfl (fun K hK => ?_) AllReady.nil
          have hc1 := HC3.out.1
          have hf1 := HC3.out.2
          go_simp
          clear hc1 hf1
          refine hK _ _ ?_
          clear hK K
          try simp only [Act.put, List.setIfInBounds_toArray, List.set_cons_zero, List.set_cons_succ]
          refine wpAny_done (by kernel_rfl) ?_ _
          have HFS := Kp.mk (RStep.trans HS2.out HAP.out)
          clear G1 G2 G1D HC3 HAP
          go_wp2_with fail
          go_ret
          exact ⟨_, reti HW.out.1.symm, by rw [HW.out.2]; exact HFS.out⟩
        · rw [if_pos (by rfl)]
          refine wp_load_row 30 (.tmp 5) rfl F rfl 30 _ (0, 0) _ (G2.out.drew) Try.underlying30 rfl (cells30 HZl.out) ?_
          refine hK _ _ ?_
          clear hK K
          try simp only [Act.put, List.setIfInBounds_toArray, List.set_cons_zero, List.set_cons_succ]
          refine wpAny_take (i := 7) (oi := { dst := some 31, op := Go.Op.build 98 #[(0, Go.Operand.tmp 29), (1, Go.Operand.tmp 30)], type := 98, pos := "ref.go:80", after := #[{ on := 5, ground := Go.Ground.data }, { on := 6, ground := Go.Ground.data }], guard := none }) (v := .agg (wcells (k, z)).toArray) rfl (by kernel_rfl) (by kernel_rfl) (by kernel_rfl) (fun _ _ _ h => h) (Or.inl ⟨by rfl, fun w => exec_build98 HZl.out rfl rfl rfl⟩) ?_
          simp only [Act.put, List.setIfInBounds_toArray, List.set_cons_zero, List.set_cons_succ]
          refine wpAny_ready (rs := [4, 8]) (by kernel_rfl) (by simp) ?_
          refine AllReady.cons (o := { dst := some 28, op := Go.Op.load 73 (Go.Operand.tmp 27), type := 73, pos := "ref.go:80", after := #[{ on := 3, ground := Go.Ground.data }], guard := none }) rfl (fun K hK => ?_) (AllReady.cons (o := { dst := some 32, op := Go.Op.buildSlice 73 1 #[(0, Go.Operand.tmp 31)], type := 73, pos := "ref.go:80", after := #[{ on := 7, ground := Go.Ground.data }], guard := none }) rfl (fun K hK => ?_) AllReady.nil)
          · have hc1 : wr.drew.cell? ⟨M, 2, none⟩ = some v2 := G1.out.cells.1.2.2.1
            have hc2 := G1.out.cells.1.2.2.1
            have hl1 : M < wr.drew.heap.size := G1.out.lt
            have hl2 := G1.out.lt
            go_simp
            clear hc1 hc2 hl1 hl2
            refine hK _ _ ?_
            clear hK K
            try simp only [Act.put, List.setIfInBounds_toArray, List.set_cons_zero, List.set_cons_succ]
            refine wpAny_ready (rs := [8]) (by kernel_rfl) (by simp) ?_
            refine AllReady.cons (o := { dst := some 32, op := Go.Op.buildSlice 73 1 #[(0, Go.Operand.tmp 31)], type := 73, pos := "ref.go:80", after := #[{ on := 7, ground := Go.Ground.data }], guard := none }) rfl (fun K hK => ?_) AllReady.nil
            rw [if_pos (by rfl)]
            refine wp_buildSlice_one 73 1 (.tmp 31) rfl (.agg (wcells (k, z)).toArray) rfl _ _ (build73 HZl.out wr.drew) ?_
            refine hK _ _ ?_
            clear hK K
            try simp only [Act.put, List.setIfInBounds_toArray, List.set_cons_zero, List.set_cons_succ]
            refine wpAny_ready (rs := [9]) (by kernel_rfl) (by simp) ?_
            refine AllReady.cons (o := { dst := some 33, op := Go.Op.call { callee := Go.Callee.builtin Go.Builtin.append, args := #[Go.Operand.tmp 28, Go.Operand.tmp 32], argTypes := #[73, 73] }, type := 73, pos := "ref.go:80", after := #[{ on := 4, ground := Go.Ground.data }, { on := 8, ground := Go.Ground.data }], guard := none }) rfl (fun K hK => ?_) AllReady.nil
            refine step_append_lies _ rfl (.tmp 28) (.tmp 32) 73 rfl (M + 1) 98 i0 (.agg z82.toArray) 65 72 Try.underlying73 hi98 hz0 hz1 hz2 rfl (by decide) v2 r1.q.length (qcells r1.q) rfl (G1D.out.keep (more (Below.refl _ _) _)).o2 ⟨wr.drew.heap.size, 0, none⟩ 1 1 (wcells (k, z)) rfl ?d9 ?d0 ?d1 (by decide) ?d3 ?d4 ?d5 (wr.heap.size + 1) ?d6 ?_
            case d9 => rw [wcells_len HZl.out]
            case d0 => exact World.news_of_block (Blk.new wr.drew (.cells (wcells (k, z)).toArray 98))
            case d1 => exact wcells_one (k, z)
            case d3 => have := HQ.out; unfold maxLen; omega
            case d4 => have := HQ.out; omega
            case d5 => have := G1.out.lt; rw [drew_alloc_size]; omega
            case d6 => exact drew_alloc_size _ _
            intro g' cap2 w3 ho hg hv hlt
            have HAP := Kp.mk (RStep.app (k := k) (z := z) G1.out HZl.out HZb.out HQ.out ho hg hv)
            have HC3 : Kp (w3.cell? ⟨M, 2, none⟩ = some v2 ∧ w3.frozen? ⟨M, 2, none⟩ = false) := ⟨(by
              have e := (hg.block M (by have := G1.out.lt; rw [drew_alloc_size]; omega) (own_ne (show (wr.drew.alloc (.cells (wcells (k, z)).toArray 98)).heap[M]? = _ from (G1D.out.keep (more (Below.refl _ _) _)).b) (G1D.out.keep (more (Below.refl _ _) _)).o2 (by decide))).trans (G1D.out.keep (more (Below.refl _ _) (.cells (wcells (k, z)).toArray 98))).b
              exact ⟨Blk.cell e 2, Blk.frozen e 2⟩)⟩
            clear ho hg hv hlt
            refine hK _ _ ?_
            clear hK K
            try simp only [Act.put, List.setIfInBounds_toArray, List.set_cons_zero, List.set_cons_succ]
            refine wpAny_take (i := 10) (oi := { dst := some 34, op := Go.Op.nilCheck (Go.Operand.tmp 24), type := 0, pos := "ref.go:80", after := #[{ on := 0, ground := Go.Ground.data }, { on := 0, ground := Go.Ground.phase }, { on := 1, ground := Go.Ground.phase }, { on := 2, ground := Go.Ground.phase }, { on := 3, ground := Go.Ground.phase }, { on := 4, ground := Go.Ground.phase }, { on := 5, ground := Go.Ground.phase }, { on := 6, ground := Go.Ground.phase }, { on := 7, ground := Go.Ground.phase }, { on := 8, ground := Go.Ground.phase }, { on := 9, ground := Go.Ground.phase }], guard := none }) (v := rP M) rfl (by kernel_rfl) (by kernel_rfl) (by kernel_rfl) (fun _ _ _ h => h) (Or.inl ⟨by rfl, fun w => by go_simp⟩) ?_
            simp only [Act.put, List.setIfInBounds_toArray, List.set_cons_zero, List.set_cons_succ]
            refine wpAny_take (i := 11) (oi := { dst := some 35, op := Go.Op.fieldAddr 75 (Go.Operand.tmp 34) 2, type := 0, pos := "ref.go:80", after := #[{ on := 10, ground := Go.Ground.data }, { on := 0, ground := Go.Ground.phase }, { on := 1, ground := Go.Ground.phase }, { on := 2, ground := Go.Ground.phase }, { on := 3, ground := Go.Ground.phase }, { on := 4, ground := Go.Ground.phase }, { on := 5, ground := Go.Ground.phase }, { on := 6, ground := Go.Ground.phase }, { on := 7, ground := Go.Ground.phase }, { on := 8, ground := Go.Ground.phase }, { on := 9, ground := Go.Ground.phase }], guard := none }) (v := .pointer (some ⟨M, 2, none⟩)) rfl (by kernel_rfl) (by kernel_rfl) (by kernel_rfl) (fun _ _ _ h => h) (Or.inl ⟨by rfl, fun w => by go_simp⟩) ?_
            simp only [Act.put, List.setIfInBounds_toArray, List.set_cons_zero, List.set_cons_succ]
            refine wpAny_ready (rs := [12]) (by kernel_rfl) (by simp) ?_
            refine AllReady.cons (o := { dst := none, op := Go.Op.store 73 (Go.Operand.tmp 35) (Go.Operand.tmp 33), type := 0, pos := "ref.go:80", after := #[{ on := 11, ground := Go.Ground.data }, { on := 9, ground := Go.Ground.data }, { on := 9, ground := Go.Ground.chain }, { on := 0, ground := Go.Ground.phase }, { on := 1, ground := Go.Ground.phase }, { on := 2, ground := Go.Ground.phase }, { on := 3, ground := Go.Ground.phase }, { on := 4, ground := Go.Ground.phase }, { on := 5, ground := Go.Ground.phase }, { on := 6, ground := Go.Ground.phase }, { on := 7, ground := Go.Ground.phase }, { on := 8, ground := Go.Ground.phase }, { on := 9, ground := Go.Ground.phase }], guard := none }) rfl (fun K hK => ?_) AllReady.nil
            have hc1 := HC3.out.1
            have hf1 := HC3.out.2
            go_simp
            clear hc1 hf1
            refine hK _ _ ?_
            clear hK K
            try simp only [Act.put, List.setIfInBounds_toArray, List.set_cons_zero, List.set_cons_succ]
            refine wpAny_done (by kernel_rfl) ?_ _
            have HFS := Kp.mk (RStep.trans HS2.out HAP.out)
            clear G1 G2 G1D HC3 HAP
            go_wp2_with fail
            go_ret
            exact ⟨_, reti HW.out.1.symm, by rw [HW.out.2]; exact HFS.out⟩
          · rw [if_pos (by rfl)]
            refine wp_buildSlice_one 73 1 (.tmp 31) rfl (.agg (wcells (k, z)).toArray) rfl _ _ (build73 HZl.out wr.drew) ?_
            refine hK _ _ ?_
            clear hK K
            try simp only [Act.put, List.setIfInBounds_toArray, List.set_cons_zero, List.set_cons_succ]
            refine wpAny_ready (rs := [4]) (by kernel_rfl) (by simp) ?_
            refine AllReady.cons (o := { dst := some 28, op := Go.Op.load 73 (Go.Operand.tmp 27), type := 73, pos := "ref.go:80", after := #[{ on := 3, ground := Go.Ground.data }], guard := none }) rfl (fun K hK => ?_) AllReady.nil
            have hc1 : wr.drew.cell? ⟨M, 2, none⟩ = some v2 := G1.out.cells.1.2.2.1
            have hc2 := G1.out.cells.1.2.2.1
            have hl1 : M < wr.drew.heap.size := G1.out.lt
            have hl2 := G1.out.lt
            go_simp
            clear hc1 hc2 hl1 hl2
            rw [show (wr.alloc (.cells (wcells (k, z)).toArray 98)).drew = wr.drew.alloc (.cells (wcells (k, z)).toArray 98) from rfl]
            refine hK _ _ ?_
            clear hK K
            try simp only [Act.put, List.setIfInBounds_toArray, List.set_cons_zero, List.set_cons_succ]
            refine wpAny_ready (rs := [9]) (by kernel_rfl) (by simp) ?_
            refine AllReady.cons (o := { dst := some 33, op := Go.Op.call { callee := Go.Callee.builtin Go.Builtin.append, args := #[Go.Operand.tmp 28, Go.Operand.tmp 32], argTypes := #[73, 73] }, type := 73, pos := "ref.go:80", after := #[{ on := 4, ground := Go.Ground.data }, { on := 8, ground := Go.Ground.data }], guard := none }) rfl (fun K hK => ?_) AllReady.nil
            refine step_append_lies _ rfl (.tmp 28) (.tmp 32) 73 rfl (M + 1) 98 i0 (.agg z82.toArray) 65 72 Try.underlying73 hi98 hz0 hz1 hz2 rfl (by decide) v2 r1.q.length (qcells r1.q) rfl (G1D.out.keep (more (Below.refl _ _) _)).o2 ⟨wr.drew.heap.size, 0, none⟩ 1 1 (wcells (k, z)) rfl ?d9 ?d0 ?d1 (by decide) ?d3 ?d4 ?d5 (wr.heap.size + 1) ?d6 ?_
            case d9 => rw [wcells_len HZl.out]
            case d0 => exact World.news_of_block (Blk.new wr.drew (.cells (wcells (k, z)).toArray 98))
            case d1 => exact wcells_one (k, z)
            case d3 => have := HQ.out; unfold maxLen; omega
            case d4 => have := HQ.out; omega
            case d5 => have := G1.out.lt; rw [drew_alloc_size]; omega
            case d6 => exact drew_alloc_size _ _
            intro g' cap2 w3 ho hg hv hlt
            have HAP := Kp.mk (RStep.app (k := k) (z := z) G1.out HZl.out HZb.out HQ.out ho hg hv)
            have HC3 : Kp (w3.cell? ⟨M, 2, none⟩ = some v2 ∧ w3.frozen? ⟨M, 2, none⟩ = false) := ⟨(by
              have e := (hg.block M (by have := G1.out.lt; rw [drew_alloc_size]; omega) (own_ne (show (wr.drew.alloc (.cells (wcells (k, z)).toArray 98)).heap[M]? = _ from (G1D.out.keep (more (Below.refl _ _) _)).b) (G1D.out.keep (more (Below.refl _ _) _)).o2 (by decide))).trans (G1D.out.keep (more (Below.refl _ _) (.cells (wcells (k, z)).toArray 98))).b
              exact ⟨Blk.cell e 2, Blk.frozen e 2⟩)⟩
            clear ho hg hv hlt
            refine hK _ _ ?_
            clear hK K
            try simp only [Act.put, List.setIfInBounds_toArray, List.set_cons_zero, List.set_cons_succ]
            refine wpAny_take (i := 10) (oi := { dst := some 34, op := Go.Op.nilCheck (Go.Operand.tmp 24), type := 0, pos := "ref.go:80", after := #[{ on := 0, ground := Go.Ground.data }, { on := 0, ground := Go.Ground.phase }, { on := 1, ground := Go.Ground.phase }, { on := 2, ground := Go.Ground.phase }, { on := 3, ground := Go.Ground.phase }, { on := 4, ground := Go.Ground.phase }, { on := 5, ground := Go.Ground.phase }, { on := 6, ground := Go.Ground.phase }, { on := 7, ground := Go.Ground.phase }, { on := 8, ground := Go.Ground.phase }, { on := 9, ground := Go.Ground.phase }], guard := none }) (v := rP M) rfl (by kernel_rfl) (by kernel_rfl) (by kernel_rfl) (fun _ _ _ h => h) (Or.inl ⟨by rfl, fun w => by go_simp⟩) ?_
            simp only [Act.put, List.setIfInBounds_toArray, List.set_cons_zero, List.set_cons_succ]
            refine wpAny_take (i := 11) (oi := { dst := some 35, op := Go.Op.fieldAddr 75 (Go.Operand.tmp 34) 2, type := 0, pos := "ref.go:80", after := #[{ on := 10, ground := Go.Ground.data }, { on := 0, ground := Go.Ground.phase }, { on := 1, ground := Go.Ground.phase }, { on := 2, ground := Go.Ground.phase }, { on := 3, ground := Go.Ground.phase }, { on := 4, ground := Go.Ground.phase }, { on := 5, ground := Go.Ground.phase }, { on := 6, ground := Go.Ground.phase }, { on := 7, ground := Go.Ground.phase }, { on := 8, ground := Go.Ground.phase }, { on := 9, ground := Go.Ground.phase }], guard := none }) (v := .pointer (some ⟨M, 2, none⟩)) rfl (by kernel_rfl) (by kernel_rfl) (by kernel_rfl) (fun _ _ _ h => h) (Or.inl ⟨by rfl, fun w => by go_simp⟩) ?_
            simp only [Act.put, List.setIfInBounds_toArray, List.set_cons_zero, List.set_cons_succ]
            refine wpAny_ready (rs := [12]) (by kernel_rfl) (by simp) ?_
            refine AllReady.cons (o := { dst := none, op := Go.Op.store 73 (Go.Operand.tmp 35) (Go.Operand.tmp 33), type := 0, pos := "ref.go:80", after := #[{ on := 11, ground := Go.Ground.data }, { on := 9, ground := Go.Ground.data }, { on := 9, ground := Go.Ground.chain }, { on := 0, ground := Go.Ground.phase }, { on := 1, ground := Go.Ground.phase }, { on := 2, ground := Go.Ground.phase }, { on := 3, ground := Go.Ground.phase }, { on := 4, ground := Go.Ground.phase }, { on := 5, ground := Go.Ground.phase }, { on := 6, ground := Go.Ground.phase }, { on := 7, ground := Go.Ground.phase }, { on := 8, ground := Go.Ground.phase }, { on := 9, ground := Go.Ground.phase }], guard := none }) rfl (fun K hK => ?_) AllReady.nil
            have hc1 := HC3.out.1
            have hf1 := HC3.out.2
            go_simp
            clear hc1 hf1
            refine hK _ _ ?_
            clear hK K
            try simp only [Act.put, List.setIfInBounds_toArray, List.set_cons_zero, List.set_cons_succ]
            refine wpAny_done (by kernel_rfl) ?_ _
            have HFS := Kp.mk (RStep.trans HS2.out HAP.out)
            clear G1 G2 G1D HC3 HAP
            go_wp2_with fail
            go_ret
            exact ⟨_, reti HW.out.1.symm, by rw [HW.out.2]; exact HFS.out⟩
    · have HE : Kp ((1 : Int) = rWriteE r a ∧ rWriteS r a z = r) := ⟨by unfold rWriteE rWriteS rHas; rw [hd]; simp; omega⟩
      by_cases ha0 : 0 ≤ a
      · have ha2 : (r.n : Int) ≤ a := by omega
        clear hd ha
        go_enter Try.func36, Try.ntmps36
        go_wp2_with (refine wpList_box_eq rfl 30 (.tmp 2) rfl _ rfl _ _ (hC _) ?_; rw [← hF]; refine wpl_world (w := w.alloc (.cells (kv .u8 z).toArray 30)) (fun w2 => Row w2 F 30 .u8 z ∧ Below w.heap.size w w2) (hBOX.out _ rfl) ?_; rintro W1 ⟨h1, h2⟩; have K2 := Kp.mk h2; have c4 := (H.out.keep h2).cells.1.2.2.2.2.1; rw [HD.out] at c4; have c0 := (H.out.keep h2).cells.1.1; clear h1 h2 hF hC)
        go_ret
        exact ⟨v2, reti HE.out.1, by rw [HE.out.2]; exact RStep.same H.out K2.out⟩
      · have ha1 : a < 0 := by omega
        clear hd ha
        go_enter Try.func36, Try.ntmps36
        go_wp2_with (refine wpList_box_eq rfl 30 (.tmp 2) rfl _ rfl _ _ (hC _) ?_; rw [← hF]; refine wpl_world (w := w.alloc (.cells (kv .u8 z).toArray 30)) (fun w2 => Row w2 F 30 .u8 z ∧ Below w.heap.size w w2) (hBOX.out _ rfl) ?_; rintro W1 ⟨h1, h2⟩; have K2 := Kp.mk h2; have c4 := (H.out.keep h2).cells.1.2.2.2.2.1; rw [HD.out] at c4; have c0 := (H.out.keep h2).cells.1.1; clear h1 h2 hF hC)
        go_ret
        first | exact ⟨v2, reti HE.out.1, by rw [HE.out.2]; exact RStep.same H.out K2.out⟩ | exact ⟨reti HE.out.1, v2, by rw [HE.out.2]; exact RStep.same H.out K2.out⟩
/-- A sector as the document's device tells it. -/
def rReadZ (r : RlS) (a : Int) : List Int := if rHas r a = 0 then ofL r.q a (ofL r.sure a z64) else z64
set_option maxRecDepth 100000 in
set_option maxHeartbeats 4000000 in
theorem rread_any (M : Nat) (v1 v2 : Value) (r : RlS) (k : Int) (w : World) (h : RlIs w M v1 v2 r) : Calls Try.prog 15 #[rP M, .int .i64 k] w (ReadPost (rReadZ r k) (rHas r k) w) := by
  have H := Kp.mk h
  obtain ⟨F, hF⟩ : ∃ F, F = w.heap.size := ⟨_, rfl⟩
  have HF := Kp.mk hF
  have HMF : Kp (M < F) := ⟨by rw [hF]; exact h.lt⟩
  have HAL : Kp (∀ W : World, W = w.alloc (.cells (kv .u8 z64).toArray 30) → Row W F 30 .u8 z64 ∧ Below w.heap.size w W) := ⟨by rintro W rfl; exact ⟨Blk.newAt _ HF.out, more (Below.refl _ _) _⟩⟩
  obtain ⟨-, ⟨a, c, hv⟩⟩ := h.slices
  subst hv
  obtain ⟨ln, hln⟩ : ∃ ln, ln = r.q.length := ⟨_, rfl⟩
  have HLN := Kp.mk hln.symm
  rw [← hln] at H
  have HWr : Kp (Wr w a r.q) := ⟨own_wr h.o2 (fun x hx => (h.k.q1 x hx).1)⟩
  have HOB : Kp ((ofL r.sure k z64).length = 64 ∧ Bytes (ofL r.sure k z64)) := ⟨ofL_len _ _ _ h.k.s1 ⟨z64_len, z64_b⟩⟩
  have HOL : Kp ((ofL r.q k (ofL r.sure k z64)).length = 64) := ⟨(ofL_len _ _ _ h.k.q1 HOB.out).1⟩
  clear h hln
  cases hd : r.dn with
  | true =>
    have HE : Kp (rReadZ r k = z64 ∧ rHas r k = 5) := ⟨by unfold rReadZ rHas; simp [hd]⟩
    have HD := Kp.mk hd
    rw [HE.out.1, HE.out.2]
    clear hd
    go_enter Try.func15, Try.ntmps15
    go_wp2_with (first
      | (refine wpList_alloc_row rfl 30 rfl _ _ infoz30 ?_; rw [← hF]; refine wpl_world (w := w.alloc (.cells (kv .u8 z64).toArray 30)) (fun w2 => Row w2 F 30 .u8 z64 ∧ Below w.heap.size w w2) (HAL.out _ rfl) ?_; rintro W1 ⟨h1, h2⟩; have HR1 := Kp.mk h1; have HB1 := Kp.mk h2; have c4 := (H.out.keep h2).cells.1.2.2.2.2.1; rw [HD.out] at c4; clear h1 h2 hF)
      | (refine wpList_val rfl (exec_build30z rfl) ?_)
      | (refine wpList_store_row rfl 30 (.tmp 4) (.tmp 10) rfl F (kv .u8 z64).toArray rfl rfl 30 _ HR1.out (cells30 z64_len) rfl (kv_all _ _) ?_; refine wpl_world (fun w2 => Row w2 F 30 .u8 z64 ∧ Below w.heap.size w w2) ⟨HR1.out.setRow _, Below.row HB1.out (by rw [HF.out]; exact Nat.le_refl _) _⟩ ?_; rintro W2 ⟨h1, h2⟩; have HR2 := Kp.mk h1; have HB2 := Kp.mk h2; clear h1 h2))
    exact bodyPost_ret (results_row_tmp rfl _ _ F 30 _ (0, 0) _ _ rfl rfl HR2.out Try.underlying30 rfl (cells30 z64_len)) rfl ⟨rfl, HB2.out⟩
  | false =>
    have HD := Kp.mk hd
    by_cases ha : 0 ≤ k ∧ k < r.n
    · have HE : Kp (rReadZ r k = ofL r.q k (ofL r.sure k z64) ∧ rHas r k = 0) := ⟨by unfold rReadZ rHas; simp [hd, ha]⟩
      obtain ⟨ha0, ha1⟩ := ha
      have ha2 : ¬ (r.n : Int) ≤ k := by omega
      rw [HE.out.1, HE.out.2]
      clear hd
      go_enter Try.func15, Try.ntmps15
      go_wp2_with (refine wpList_alloc_row rfl 30 rfl _ _ infoz30 ?_; rw [← hF]; refine wpl_world (w := w.alloc (.cells (kv .u8 z64).toArray 30)) (fun w2 => Row w2 F 30 .u8 z64 ∧ Below w.heap.size w w2) (HAL.out _ rfl) ?_; rintro W1 ⟨h1, h2⟩; have HR1 := Kp.mk h1; have HB1 := Kp.mk h2; have H1 := Kp.mk (H.out.keep h2); have c4 := (H.out.keep h2).cells.1.2.2.2.2.1; rw [HD.out] at c4; have c0 := (H.out.keep h2).cells.1.1; have c2 := (H.out.keep h2).cells.1.2.2.1; clear h1 h2 hF)
      refine wp_region_held_drew (S := fun w' => w'.cell? ⟨M, 2, none⟩ = some (.slice a ln c)) (by kernel_rfl) (c2) (fun hH => ?_)
      refine wpAnyH_take (i := 0) (oi := { dst := some 22, op := Go.Op.move (Go.Operand.tmp 0), type := 28, pos := "ref.go:104", after := #[], guard := none }) (v := rP M) rfl (by kernel_rfl) (by kernel_rfl) (by kernel_rfl) (fun _ _ _ h => h) (Or.inl ⟨by rfl, fun w hS => by first | rfl | go_simp⟩) hH ?_
      simp only [Act.put, List.setIfInBounds_toArray, List.set_cons_zero, List.set_cons_succ]
      refine wpAnyH_take (i := 1) (oi := { dst := some 23, op := Go.Op.nilCheck (Go.Operand.tmp 22), type := 0, pos := "ref.go:104", after := #[{ on := 0, ground := Go.Ground.data }], guard := none }) (v := rP M) rfl (by kernel_rfl) (by kernel_rfl) (by kernel_rfl) (fun _ _ _ h => h) (Or.inl ⟨by rfl, fun w hS => by first | rfl | go_simp⟩) hH ?_
      simp only [Act.put, List.setIfInBounds_toArray, List.set_cons_zero, List.set_cons_succ]
      refine wpAnyH_take (i := 2) (oi := { dst := some 24, op := Go.Op.fieldAddr 75 (Go.Operand.tmp 23) 2, type := 0, pos := "ref.go:104", after := #[{ on := 1, ground := Go.Ground.data }], guard := none }) (v := .pointer (some ⟨M, 2, none⟩)) rfl (by kernel_rfl) (by kernel_rfl) (by kernel_rfl) (fun _ _ _ h => h) (Or.inl ⟨by rfl, fun w hS => by first | rfl | go_simp⟩) hH ?_
      simp only [Act.put, List.setIfInBounds_toArray, List.set_cons_zero, List.set_cons_succ]
      refine wpAnyH_take (i := 3) (oi := { dst := some 25, op := Go.Op.load 73 (Go.Operand.tmp 24), type := 73, pos := "ref.go:104", after := #[{ on := 2, ground := Go.Ground.data }], guard := none }) (v := .slice a ln c) rfl (by kernel_rfl) (by kernel_rfl) (by kernel_rfl) (fun _ _ _ h => h) (Or.inl ⟨by rfl, fun w hS => by have h1 := hS; go_simp⟩) hH ?_
      simp only [Act.put, List.setIfInBounds_toArray, List.set_cons_zero, List.set_cons_succ]
      refine wpAnyH_take (i := 4) (oi := { dst := some 26, op := Go.Op.move (Go.Operand.tmp 1), type := 3, pos := "ref.go:104", after := #[], guard := none }) (v := .int .i64 k) rfl (by kernel_rfl) (by kernel_rfl) (by kernel_rfl) (fun _ _ _ h => h) (Or.inl ⟨by rfl, fun w hS => by first | rfl | go_simp⟩) hH ?_
      simp only [Act.put, List.setIfInBounds_toArray, List.set_cons_zero, List.set_cons_succ]
      refine wpAnyH_take (i := 5) (oi := { dst := some 27, op := Go.Op.move (Go.Operand.tmp 0), type := 28, pos := "ref.go:104", after := #[], guard := none }) (v := rP M) rfl (by kernel_rfl) (by kernel_rfl) (by kernel_rfl) (fun _ _ _ h => h) (Or.inl ⟨by rfl, fun w hS => by first | rfl | go_simp⟩) hH ?_
      simp only [Act.put, List.setIfInBounds_toArray, List.set_cons_zero, List.set_cons_succ]
      refine wpAnyH_take (i := 6) (oi := { dst := some 28, op := Go.Op.move (Go.Operand.tmp 1), type := 3, pos := "ref.go:104", after := #[], guard := none }) (v := .int .i64 k) rfl (by kernel_rfl) (by kernel_rfl) (by kernel_rfl) (fun _ _ _ h => h) (Or.inl ⟨by rfl, fun w hS => by first | rfl | go_simp⟩) hH ?_
      simp only [Act.put, List.setIfInBounds_toArray, List.set_cons_zero, List.set_cons_succ]
      refine wpAnyH_ready (rs := [7]) (by kernel_rfl) (by simp) ?_
      refine AllReadyH.cons (o := { dst := some 29, op := Go.Op.call { callee := Go.Callee.value (Go.Operand.func 42), args := #[Go.Operand.tmp 27, Go.Operand.tmp 28], argTypes := #[28, 3] }, type := 30, pos := "ref.go:104", after := #[{ on := 5, ground := Go.Ground.data }, { on := 6, ground := Go.Ground.data }], guard := none }) rfl (fun K hK => ?_) AllReadyH.nil
      go_simp
      refine (ris_any M v1 (.slice a ln c) r k _ (show RlIs W1.drew M v1 (.slice a ln c) r from H1.out.keep ⟨rfl, rfl, rfl, Nat.le_refl _, fun _ _ => rfl⟩)).mono ?_
      rintro e w2 ⟨rfl, hb2⟩
      have HB2 : Kp (Below W1.heap.size W1 w2) := ⟨(show Below W1.heap.size W1 W1.drew from ⟨rfl, rfl, rfl, Nat.le_refl _, fun _ _ => rfl⟩).trans hb2⟩
      have H2 := Kp.mk (H1.out.keep HB2.out)
      clear hb2
      refine hK.out _ _ (H2.out.cells.1.2.2.1) (fun hHn => ?_)
      clear hK K hH
      have hH := hHn
      clear hHn
      try simp only [Act.put, List.setIfInBounds_toArray, List.set_cons_zero, List.set_cons_succ]
      refine wpAnyH_ready (rs := [8]) (by kernel_rfl) (by simp) ?_
      refine AllReadyH.cons (o := { dst := some 30, op := Go.Op.call { callee := Go.Callee.value (Go.Operand.func 41), args := #[Go.Operand.tmp 25, Go.Operand.tmp 26, Go.Operand.tmp 29], argTypes := #[73, 3, 30] }, type := 30, pos := "ref.go:104", after := #[{ on := 3, ground := Go.Ground.data }, { on := 4, ground := Go.Ground.data }, { on := 7, ground := Go.Ground.data }, { on := 7, ground := Go.Ground.chain }], guard := none }) rfl (fun K hK => ?_) AllReadyH.nil
      go_simp
      refine (of_any a ln c r.q k (ofL r.sure k z64) _ HLN.out (by rw [← HLN.out]; exact H.out.k.ql) (HWr.out.keep (HB1.out.trans (HB2.out.mono HB1.out.size))) H.out.k.q1 HOB.out).mono ?_
      rintro e w3 ⟨rfl, hb3⟩
      have HB3 : Kp (Below W1.heap.size W1 w3) := ⟨HB2.out.trans (hb3.mono HB2.out.size)⟩
      have HR3 := Kp.mk (HR1.out.keep HB3.out)
      have H3 := Kp.mk (H1.out.keep HB3.out)
      clear hb3
      refine hK.out _ _ (H3.out.cells.1.2.2.1) (fun hHn => ?_)
      clear hK K hH
      have hH := hHn
      clear hHn
      try simp only [Act.put, List.setIfInBounds_toArray, List.set_cons_zero, List.set_cons_succ]
      refine wpAnyH_ready (rs := [9]) (by kernel_rfl) (by simp) ?_
      refine AllReadyH.cons (o := { dst := none, op := Go.Op.store 30 (Go.Operand.tmp 4) (Go.Operand.tmp 30), type := 0, pos := "ref.go:104", after := #[{ on := 8, ground := Go.Ground.data }, { on := 8, ground := Go.Ground.chain }, { on := 0, ground := Go.Ground.phase }, { on := 1, ground := Go.Ground.phase }, { on := 2, ground := Go.Ground.phase }, { on := 3, ground := Go.Ground.phase }, { on := 4, ground := Go.Ground.phase }, { on := 5, ground := Go.Ground.phase }, { on := 6, ground := Go.Ground.phase }, { on := 7, ground := Go.Ground.phase }, { on := 8, ground := Go.Ground.phase }], guard := none }) rfl (fun K hK => ?_) AllReadyH.nil
      rw [if_pos (by rfl)]
      refine wp_store_row 30 (.tmp 4) (.tmp 30) rfl F (kv .u8 (ofL r.q k (ofL r.sure k z64))).toArray rfl rfl 30 _ HR3.out (cells30 HOL.out) (by rw [kv_size, kv_size, HOL.out, z64_len]) (kv_all _ _) ?_
      have HSM : Kp ((w3.setRow F (kv .u8 (ofL r.q k (ofL r.sure k z64))).toArray).cell? ⟨M, 2, none⟩ = some (.slice a ln c)) := ⟨(World.cell?_of_block (w := w3) (a := ⟨M, 2, none⟩) (setRow_other _ _ _ _ (by have := HMF.out; show M ≠ F; omega))).trans H3.out.cells.1.2.2.1⟩
      refine hK.out _ _ (HSM.out) (fun hHn => ?_)
      clear hK K hH
      have hH := hHn
      clear hHn
      try simp only [Act.put, List.setIfInBounds_toArray, List.set_cons_zero, List.set_cons_succ]
      refine wpAnyH_take (i := 10) (oi := { dst := some 5, op := Go.Op.assign (Go.Operand.const (Go.Value.int Go.IntKind.i64 0)), type := 3, pos := "ref.go:104", after := #[{ on := 9, ground := Go.Ground.chain }, { on := 0, ground := Go.Ground.phase }, { on := 1, ground := Go.Ground.phase }, { on := 2, ground := Go.Ground.phase }, { on := 3, ground := Go.Ground.phase }, { on := 4, ground := Go.Ground.phase }, { on := 5, ground := Go.Ground.phase }, { on := 6, ground := Go.Ground.phase }, { on := 7, ground := Go.Ground.phase }, { on := 8, ground := Go.Ground.phase }, { on := 9, ground := Go.Ground.phase }], guard := none }) (v := .int .i64 0) rfl (by kernel_rfl) (by kernel_rfl) (by kernel_rfl) (fun _ _ _ h => h) (Or.inl ⟨by rfl, fun w hS => by first | rfl | go_simp⟩) hH ?_
      simp only [Act.put, List.setIfInBounds_toArray, List.set_cons_zero, List.set_cons_succ]
      clear hH
      refine wpAnyH_done (by kernel_rfl) ?_ _
      have HFF : Kp (Row (w3.setRow F (kv .u8 (ofL r.q k (ofL r.sure k z64))).toArray) F 30 .u8 (ofL r.q k (ofL r.sure k z64)) ∧ Below w.heap.size w (w3.setRow F (kv .u8 (ofL r.q k (ofL r.sure k z64))).toArray)) := ⟨HR3.out.setRow _, Below.row (HB1.out.trans (HB3.out.mono HB1.out.size)) (by rw [HF.out]; exact Nat.le_refl _) _⟩
      go_wp2_with fail
      exact bodyPost_ret (results_row_tmp rfl _ _ F 30 _ (0, 0) _ _ rfl rfl HFF.out.1 Try.underlying30 rfl (cells30 HOL.out)) rfl ⟨rfl, HFF.out.2⟩
    · have HE : Kp (rReadZ r k = z64 ∧ rHas r k = 1) := ⟨by
        have e : rHas r k = 1 := by unfold rHas; rw [hd]; simp; omega
        exact ⟨by unfold rReadZ; rw [e]; rfl, e⟩⟩
      rw [HE.out.1, HE.out.2]
      by_cases ha0 : 0 ≤ k
      · have ha2 : (r.n : Int) ≤ k := by omega
        clear hd ha
        go_enter Try.func15, Try.ntmps15
        go_wp2_with (first
          | (refine wpList_alloc_row rfl 30 rfl _ _ infoz30 ?_; rw [← hF]; refine wpl_world (w := w.alloc (.cells (kv .u8 z64).toArray 30)) (fun w2 => Row w2 F 30 .u8 z64 ∧ Below w.heap.size w w2) (HAL.out _ rfl) ?_; rintro W1 ⟨h1, h2⟩; have HR1 := Kp.mk h1; have HB1 := Kp.mk h2; have c4 := (H.out.keep h2).cells.1.2.2.2.2.1; rw [HD.out] at c4; have c0 := (H.out.keep h2).cells.1.1; clear h1 h2 hF)
          | (refine wpList_val rfl (exec_build30z rfl) ?_)
          | (refine wpList_store_row rfl 30 (.tmp 4) (.tmp 21) rfl F (kv .u8 z64).toArray rfl rfl 30 _ HR1.out (cells30 z64_len) rfl (kv_all _ _) ?_; refine wpl_world (fun w2 => Row w2 F 30 .u8 z64 ∧ Below w.heap.size w w2) ⟨HR1.out.setRow _, Below.row HB1.out (by rw [HF.out]; exact Nat.le_refl _) _⟩ ?_; rintro W2 ⟨h1, h2⟩; have HR2 := Kp.mk h1; have HB2 := Kp.mk h2; clear h1 h2))
        exact bodyPost_ret (results_row_tmp rfl _ _ F 30 _ (0, 0) _ _ rfl rfl HR2.out Try.underlying30 rfl (cells30 z64_len)) rfl ⟨rfl, HB2.out⟩
      · have ha1 : k < 0 := by omega
        clear hd ha
        go_enter Try.func15, Try.ntmps15
        go_wp2_with (first
          | (refine wpList_alloc_row rfl 30 rfl _ _ infoz30 ?_; rw [← hF]; refine wpl_world (w := w.alloc (.cells (kv .u8 z64).toArray 30)) (fun w2 => Row w2 F 30 .u8 z64 ∧ Below w.heap.size w w2) (HAL.out _ rfl) ?_; rintro W1 ⟨h1, h2⟩; have HR1 := Kp.mk h1; have HB1 := Kp.mk h2; have c4 := (H.out.keep h2).cells.1.2.2.2.2.1; rw [HD.out] at c4; have c0 := (H.out.keep h2).cells.1.1; clear h1 h2 hF)
          | (refine wpList_val rfl (exec_build30z rfl) ?_)
          | (refine wpList_store_row rfl 30 (.tmp 4) (.tmp 21) rfl F (kv .u8 z64).toArray rfl rfl 30 _ HR1.out (cells30 z64_len) rfl (kv_all _ _) ?_; refine wpl_world (fun w2 => Row w2 F 30 .u8 z64 ∧ Below w.heap.size w w2) ⟨HR1.out.setRow _, Below.row HB1.out (by rw [HF.out]; exact Nat.le_refl _) _⟩ ?_; rintro W2 ⟨h1, h2⟩; have HR2 := Kp.mk h1; have HB2 := Kp.mk h2; clear h1 h2))
        exact bodyPost_ret (results_row_tmp rfl _ _ F 30 _ (0, 0) _ _ rfl rfl HR2.out Try.underlying30 rfl (cells30 z64_len)) rfl ⟨rfl, HB2.out⟩
end Go.Proofs.Ytgikedbnnlckjaa
