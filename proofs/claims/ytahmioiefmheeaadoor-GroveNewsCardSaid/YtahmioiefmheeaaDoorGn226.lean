/-
  grove.halved.
-/
import Derived.Test.YtahmioiefmheeaaDoorGn225
import Derived.Deep.AppendLies
namespace Go.Proofs.YtahmioiefmheeaaDoor
open Go.RowKit

theorem wp_buildSlice_one {P : Program} {o : Oper} {a : Act} {w : World} {K : Act → World → Prop} {Q : Exit → Act → World → Prop} (t : TypeId) (len : Nat) (x : Operand) (ho : o.op = .buildSlice t len #[(0, x)])
    (u : Value) (hx : a.eval x = u) (v : Value) (w' : World) (hrun : (Instr.buildSlice t len #[(0, u)]).run P w = .ok v w') (h : K (a.put o.dst v) w') : o.wp P a w K Q := by
  subst hx
  unfold Oper.wp execOp
  simp only [ho, Sem.run_bind, List.map_toArray, List.map_cons, List.map_nil, hrun, Result.andThen_ok]
  exact h
theorem range_seg {w : World} {B i : Nat} {p : List Int} (h : w.rangeAt B 0 (kv .u8 p)) (hi : (i + 1) * 16 ≤ p.length) : w.rangeAt B (i * 16) (kv .u8 (segL p i)) := fun j v hj => by
  unfold segL at hj
  have hj16 : j < 16 := by
    have := (List.getElem?_eq_some_iff.1 hj).1
    simp at this
    omega
  have h2 := h (i * 16 + j) v (by
    rw [List.getElem?_map] at hj ⊢
    rw [List.getElem?_take, if_pos hj16, List.getElem?_drop] at hj
    exact hj)
  rw [Nat.zero_add] at h2
  exact h2
/-- The row above a row. -/
def upG (d e v : Int) (p : List Int) (m : Nat) : List Int := rowsL (fun i => shortL (aboveT d e v (segL p (2 * i)) (segL p (2 * i + 1)))) m
theorem upG_len (d e v : Int) (p : List Int) (m : Nat) : (upG d e v p m).length = m * 16 := rowsL_len (fun _ => shortL_len _) m
theorem upG_bytes (d e v : Int) (p : List Int) (m : Nat) : Bytes (upG d e v p m) := rowsL_bytes (fun _ => shortL_bytes _) m
theorem upG_seg (d e v : Int) (p : List Int) (m i : Nat) (hi : i < m) : segL (upG d e v p m) i = shortL (aboveT d e v (segL p (2 * i)) (segL p (2 * i + 1))) := rowsL_mid (f := fun i => shortL (aboveT d e v (segL p (2 * i)) (segL p (2 * i + 1)))) (fun _ => shortL_len _) m i hi
set_option maxRecDepth 100000 in
set_option maxHeartbeats 4000000 in
theorem halved_any (d e v : Int) (p : List Int) (n m B cap : Nat) (w : World) (hk : KonIs w) (he : 0 ≤ e ∧ e < 4294967296) (hp : p.length = n * 16) (hb : Bytes p) (hn : n = 2 * m) (hm : m ≤ 32) (hr : w.rangeAt B 0 (kv .u8 p)) (hB : B < w.heap.size) :
    Calls Tryd.prog 102 #[.int .i64 d, .int .u32 e, .int .i64 v, .slice (some ⟨B, 0, none⟩) n cap] w fun r w' => ∃ v', r = .returned v' ∧ w'.ownsRow w.heap.size 33 16 v' m (bv (upG d e v p m)) ∧ Below w.heap.size w w' := by
  have HK := Kp.mk hk
  have HE := Kp.mk he
  have HP := Kp.mk hp
  have HPb := Kp.mk hb
  have HR := Kp.mk hr
  obtain ⟨i0, hi, hz0, hz1, hz2⟩ := info_parts info33'
  obtain ⟨A, hA⟩ : ∃ A, A = w.heap.size := ⟨_, rfl⟩
  have HA := Kp.mk hA
  have HBA : Kp (B < A) := ⟨by rw [hA]; exact hB⟩
  have hn64 : n ≤ 64 := by omega
  have HN := Kp.mk hn
  clear hk he hp hb hr hB hn
  go_enter Tryd.func102, Tryd.ntmps102
  go_wp2_with fail
  go_loopw [9, 10] (fun v9 c9 wr => ∃ i c : Nat, i ≤ m ∧ c9 = .int .i64 c ∧ Kp (c = 2 * i) ∧ Kp (wr.ownsRow A 33 16 v9 i (bv ((upG d e v p m).take (i * 16)))) ∧ Kp (wr.rangeAt B 0 (kv .u8 p)) ∧ Kp (Below A w wr ∧ A ≤ wr.heap.size)) (fun _ c _ => n - (intOf c).toNat)
  case atStart => exact ⟨0, 0, by omega, rfl, ⟨rfl⟩, ⟨World.ownsRow_nil _ _ _ _⟩, HR, ⟨by rw [hA]; exact Below.refl _ _, by rw [hA]; exact Nat.le_refl _⟩⟩
  case round =>
    obtain ⟨i, c, hi', rfl, HC, G1, G2, G3⟩ := hrel
    clear hA
    by_cases hlt : i < m
    · have hcn : c + 1 < n := by have := HC.out; have := HN.out; omega
      have hcl : (c : Int) < (n : Int) := by omega
      obtain ⟨x1, hx1⟩ : ∃ x, x = segL p c := ⟨_, rfl⟩
      obtain ⟨x2, hx2⟩ : ∃ x, x = segL p (c + 1) := ⟨_, rfl⟩
      have HX1 : Kp (x1 = segL p c ∧ x1.length = 16 ∧ Bytes x1) := ⟨⟨hx1, by rw [hx1]; exact segL_len HP.out (by omega), by rw [hx1]; exact HPb.out.seg _⟩⟩
      have HX2 : Kp (x2 = segL p (c + 1) ∧ x2.length = 16 ∧ Bytes x2) := ⟨⟨hx2, by rw [hx2]; exact segL_len HP.out (by omega), by rw [hx2]; exact HPb.out.seg _⟩⟩
      obtain ⟨x, hx⟩ : ∃ x, x = shortL (aboveT d e v x1 x2) := ⟨_, rfl⟩
      have HXl : Kp (x.length = 16) := ⟨by rw [hx]; exact shortL_len _⟩
      have HXe : Kp (shortL (aboveT d e v x1 x2) = x) := ⟨hx.symm⟩
      have HXX : Kp (bv ((upG d e v p m).take (i * 16)) ++ bv x = bv ((upG d e v p m).take ((i + 1) * 16))) := ⟨by
        have h1 := upG_seg d e v p m i hlt
        rw [← HC.out, ← hx1, ← hx2, ← hx] at h1
        rw [← h1]
        exact take16 _ _⟩
      generalize bv ((upG d e v p m).take (i * 16)) = xs at G1 HXX
      clear hx1 hx2 hx
      go_wp2_with fail
      refine wp_region_held_drew (S := fun w' => Kp (w'.rangeAt B 0 (kv .u8 p))) (by kernel_rfl) (⟨G2.out⟩) (fun hH => ?_)
      refine wpAnyH_take (i := 0) (oi := { dst := some 17, op := Go.Op.move (Go.Operand.tmp 9), type := 66, pos := "grove.go:48", after := #[], guard := none }) (v := u9) rfl (by kernel_rfl) (by kernel_rfl) (by kernel_rfl) (fun _ _ _ h => h) (Or.inl ⟨by rfl, fun w hS => by first | rfl | go_simp⟩) hH ?_
      simp only [Act.put, List.setIfInBounds_toArray, List.set_cons_zero, List.set_cons_succ]
      refine wpAnyH_take (i := 1) (oi := { dst := some 18, op := Go.Op.move (Go.Operand.tmp 0), type := 3, pos := "grove.go:48", after := #[], guard := none }) (v := .int .i64 d) rfl (by kernel_rfl) (by kernel_rfl) (by kernel_rfl) (fun _ _ _ h => h) (Or.inl ⟨by rfl, fun w hS => by first | rfl | go_simp⟩) hH ?_
      simp only [Act.put, List.setIfInBounds_toArray, List.set_cons_zero, List.set_cons_succ]
      refine wpAnyH_take (i := 2) (oi := { dst := some 19, op := Go.Op.move (Go.Operand.tmp 1), type := 46, pos := "grove.go:48", after := #[], guard := none }) (v := .int .u32 e) rfl (by kernel_rfl) (by kernel_rfl) (by kernel_rfl) (fun _ _ _ h => h) (Or.inl ⟨by rfl, fun w hS => by first | rfl | go_simp⟩) hH ?_
      simp only [Act.put, List.setIfInBounds_toArray, List.set_cons_zero, List.set_cons_succ]
      refine wpAnyH_take (i := 3) (oi := { dst := some 20, op := Go.Op.move (Go.Operand.tmp 2), type := 3, pos := "grove.go:48", after := #[], guard := none }) (v := .int .i64 v) rfl (by kernel_rfl) (by kernel_rfl) (by kernel_rfl) (fun _ _ _ h => h) (Or.inl ⟨by rfl, fun w hS => by first | rfl | go_simp⟩) hH ?_
      simp only [Act.put, List.setIfInBounds_toArray, List.set_cons_zero, List.set_cons_succ]
      refine wpAnyH_take (i := 4) (oi := { dst := some 21, op := Go.Op.move (Go.Operand.tmp 3), type := 66, pos := "grove.go:48", after := #[], guard := none }) (v := .slice (some ⟨B, 0, none⟩) n cap) rfl (by kernel_rfl) (by kernel_rfl) (by kernel_rfl) (fun _ _ _ h => h) (Or.inl ⟨by rfl, fun w hS => by first | rfl | go_simp⟩) hH ?_
      simp only [Act.put, List.setIfInBounds_toArray, List.set_cons_zero, List.set_cons_succ]
      refine wpAnyH_take (i := 5) (oi := { dst := some 22, op := Go.Op.move (Go.Operand.tmp 10), type := 3, pos := "grove.go:48", after := #[], guard := none }) (v := .int .i64 c) rfl (by kernel_rfl) (by kernel_rfl) (by kernel_rfl) (fun _ _ _ h => h) (Or.inl ⟨by rfl, fun w hS => by first | rfl | go_simp⟩) hH ?_
      simp only [Act.put, List.setIfInBounds_toArray, List.set_cons_zero, List.set_cons_succ]
      refine wpAnyH_take (i := 6) (oi := { dst := some 23, op := Go.Op.indexAddr 66 (Go.Operand.tmp 21) (Go.Operand.tmp 22), type := 0, pos := "grove.go:48", after := #[{ on := 4, ground := Go.Ground.data }, { on := 5, ground := Go.Ground.data }], guard := none }) (v := .pointer (some ⟨B, c * 16, none⟩)) rfl (by kernel_rfl) (by kernel_rfl) (by kernel_rfl) (fun _ _ _ h => h) (Or.inl ⟨by rfl, fun w hS => exec_idx66 (x := .tmp 21) (y := .tmp 22) (B := B) (n := n) (cap := cap) (j := c) rfl rfl rfl rfl (by omega)⟩) hH ?_
      simp only [Act.put, List.setIfInBounds_toArray, List.set_cons_zero, List.set_cons_succ]
      refine wpAnyH_take (i := 7) (oi := { dst := some 24, op := Go.Op.load 33 (Go.Operand.tmp 23), type := 33, pos := "grove.go:48", after := #[{ on := 6, ground := Go.Ground.data }], guard := none }) (v := dgV x1) rfl (by kernel_rfl) (by kernel_rfl) (by kernel_rfl) (fun _ _ _ h => h) (Or.inl ⟨by rfl, fun w hS => exec_load_at33 (x := .tmp 23) rfl rfl (by rw [HX1.out.1]; exact range_seg hS.out (by have := HP.out; omega)) HX1.out.2.1⟩) hH ?_
      simp only [Act.put, List.setIfInBounds_toArray, List.set_cons_zero, List.set_cons_succ]
      refine wpAnyH_take (i := 8) (oi := { dst := some 25, op := Go.Op.move (Go.Operand.tmp 3), type := 66, pos := "grove.go:48", after := #[], guard := none }) (v := .slice (some ⟨B, 0, none⟩) n cap) rfl (by kernel_rfl) (by kernel_rfl) (by kernel_rfl) (fun _ _ _ h => h) (Or.inl ⟨by rfl, fun w hS => by first | rfl | go_simp⟩) hH ?_
      simp only [Act.put, List.setIfInBounds_toArray, List.set_cons_zero, List.set_cons_succ]
      refine wpAnyH_take (i := 9) (oi := { dst := some 26, op := Go.Op.move (Go.Operand.tmp 10), type := 3, pos := "grove.go:48", after := #[], guard := none }) (v := .int .i64 c) rfl (by kernel_rfl) (by kernel_rfl) (by kernel_rfl) (fun _ _ _ h => h) (Or.inl ⟨by rfl, fun w hS => by first | rfl | go_simp⟩) hH ?_
      simp only [Act.put, List.setIfInBounds_toArray, List.set_cons_zero, List.set_cons_succ]
      refine wpAnyH_take (i := 10) (oi := { dst := some 27, op := Go.Op.binOp Go.BinOp.add 3 (Go.Operand.tmp 26) (Go.Operand.const (Go.Value.int Go.IntKind.i64 1)) 3, type := 3, pos := "grove.go:48", after := #[{ on := 9, ground := Go.Ground.data }], guard := none }) (v := .int .i64 ((c : Int) + 1)) rfl (by kernel_rfl) (by kernel_rfl) (by kernel_rfl) (fun _ _ _ h => h) (Or.inl ⟨by rfl, fun w hS => by have e1 : IntKind.i64.wrap ((c : Int) + 1) = (c : Int) + 1 := IntWalk.i64_in _ (by omega); go_simp⟩) hH ?_
      simp only [Act.put, List.setIfInBounds_toArray, List.set_cons_zero, List.set_cons_succ]
      refine wpAnyH_take (i := 11) (oi := { dst := some 28, op := Go.Op.indexAddr 66 (Go.Operand.tmp 25) (Go.Operand.tmp 27), type := 0, pos := "grove.go:48", after := #[{ on := 8, ground := Go.Ground.data }, { on := 10, ground := Go.Ground.data }], guard := none }) (v := .pointer (some ⟨B, (c + 1) * 16, none⟩)) rfl (by kernel_rfl) (by kernel_rfl) (by kernel_rfl) (fun _ _ _ h => h) (Or.inl ⟨by rfl, fun w hS => exec_idx66 (x := .tmp 25) (y := .tmp 27) (B := B) (n := n) (cap := cap) (j := c + 1) rfl rfl rfl (by omega) (by omega)⟩) hH ?_
      simp only [Act.put, List.setIfInBounds_toArray, List.set_cons_zero, List.set_cons_succ]
      refine wpAnyH_take (i := 12) (oi := { dst := some 29, op := Go.Op.load 33 (Go.Operand.tmp 28), type := 33, pos := "grove.go:48", after := #[{ on := 11, ground := Go.Ground.data }], guard := none }) (v := dgV x2) rfl (by kernel_rfl) (by kernel_rfl) (by kernel_rfl) (fun _ _ _ h => h) (Or.inl ⟨by rfl, fun w hS => exec_load_at33 (x := .tmp 28) rfl rfl (by rw [HX2.out.1]; exact range_seg hS.out (by have := HP.out; omega)) HX2.out.2.1⟩) hH ?_
      simp only [Act.put, List.setIfInBounds_toArray, List.set_cons_zero, List.set_cons_succ]
      refine wpAnyH_ready (rs := [13]) (by kernel_rfl) (by simp) ?_
      refine AllReadyH.cons (o := { dst := some 30, op := Go.Op.call { callee := Go.Callee.value (Go.Operand.func 70), args := #[Go.Operand.tmp 18, Go.Operand.tmp 19, Go.Operand.tmp 20, Go.Operand.tmp 24, Go.Operand.tmp 29], argTypes := #[3, 46, 3, 33, 33] }, type := 33, pos := "grove.go:48", after := #[{ on := 1, ground := Go.Ground.data }, { on := 2, ground := Go.Ground.data }, { on := 3, ground := Go.Ground.data }, { on := 7, ground := Go.Ground.data }, { on := 12, ground := Go.Ground.data }], guard := none }) rfl (fun K hK => ?_) AllReadyH.nil
      go_simp
      refine (above_any d e v x1 x2 wr.drew (HK.out.keep (by rw [← HA.out]; exact G3.out.1.drew)) HE.out HX1.out.2.1 HX1.out.2.2 HX2.out.2.1 HX2.out.2.2).mono ?_
      rintro r w1 ⟨rfl, hb⟩
      have F1 : Kp (w1.ownsRow A 33 16 u9 i xs) := ⟨ownsRow_below (w := wr.drew) G1.out hb⟩
      have F2 : Kp (w1.rangeAt B 0 (kv .u8 p)) := ⟨fun j v hj => (hb.cell (p := ⟨B, 0 + j, none⟩) (by have := HBA.out; have := G3.out.2; show B < wr.heap.size; omega)).trans (G2.out j v hj)⟩
      have F3 : Kp (Below A w w1 ∧ A ≤ w1.heap.size) := ⟨(G3.out.1.drew).trans (hb.mono G3.out.2), Nat.le_trans G3.out.2 hb.size⟩
      clear hb G1 G2 G3
      rw [HXe.out]
      refine hK.out _ _ (F2) (fun hHn => ?_)
      clear hK K hH
      have hH := hHn
      clear hHn
      try simp only [Act.put, List.setIfInBounds_toArray, List.set_cons_zero, List.set_cons_succ]
      refine wpAnyH_ready (rs := [14]) (by kernel_rfl) (by simp) ?_
      refine AllReadyH.cons (o := { dst := some 31, op := Go.Op.buildSlice 66 1 #[(0, Go.Operand.tmp 30)], type := 66, pos := "grove.go:48", after := #[{ on := 13, ground := Go.Ground.data }], guard := none }) rfl (fun K hK => ?_) AllReadyH.nil
      rw [if_pos (by rfl)]
      refine wp_buildSlice_one 66 1 (.tmp 30) rfl (dgV x) rfl _ _ (build66 HXl.out w1) ?_
      refine hK.out _ _ (⟨fun j v hj => ((more (Below.refl w1.heap.size w1) _).cell (p := ⟨B, 0 + j, none⟩) (by have := HBA.out; have := F3.out.2; show B < w1.heap.size; omega)).trans (F2.out j v hj)⟩) (fun hHn => ?_)
      clear hK K hH
      have hH := hHn
      clear hHn
      try simp only [Act.put, List.setIfInBounds_toArray, List.set_cons_zero, List.set_cons_succ]
      refine wpAnyH_ready (rs := [15]) (by kernel_rfl) (by simp) ?_
      refine AllReadyH.cons (o := { dst := some 32, op := Go.Op.call { callee := Go.Callee.builtin Go.Builtin.append, args := #[Go.Operand.tmp 17, Go.Operand.tmp 31], argTypes := #[66, 66] }, type := 66, pos := "grove.go:48", after := #[{ on := 0, ground := Go.Ground.data }, { on := 14, ground := Go.Ground.data }, { on := 13, ground := Go.Ground.chain }], guard := none }) rfl (fun K hK => ?_) AllReadyH.nil
      refine step_append_lies _ rfl (.tmp 17) (.tmp 31) 66 rfl A 33 i0 (.agg (kv .u8 (fill 16 [])).toArray) 16 16 Tryd.underlying66 hi hz0 hz1 hz2 rfl (by decide) u9 i xs rfl (F1.out.alloc _) ⟨w1.heap.size, 0, none⟩ 1 1 (bv x) rfl ?d9 (row_new _ _ _) ?d1 (by decide) ?d3 ?d4 ?d5 (w1.heap.size + 1) ?d6 ?_
      case d9 => rw [bv_len, HXl.out]
      case d1 => exact bv_one _
      case d3 => unfold maxLen; omega
      case d4 => omega
      case d5 => have := F3.out.2; simp; omega
      case d6 => simp
      intro g cap2 w3 ho hg hv hlt
      have H3 : Kp (Below A w w3) := ⟨below_row_grown (F3.out.1.alloc F3.out.2 _) (by have := F3.out.2; simp; omega) (F1.out.alloc _) hg⟩
      have H4 : Kp (A ≤ w3.heap.size) := ⟨Nat.le_trans F3.out.2 (Nat.le_trans (by simp) hg.size)⟩
      have H1 := Kp.mk ho
      have H2 : Kp (w3.rangeAt B 0 (kv .u8 p)) := ⟨fun j v hj => by
        have h9 := H3.out.block B HBA.out
        exact (World.cell?_of_block (w := w) (a := ⟨B, 0 + j, none⟩) h9).trans (HR.out j v hj)⟩
      clear ho hg hv hlt F1 F2 F3
      refine hK.out _ _ (H2) (fun hHn => ?_)
      clear hK K hH
      have hH := hHn
      clear hHn
      try simp only [Act.put, List.setIfInBounds_toArray, List.set_cons_zero, List.set_cons_succ]
      refine wpAnyH_ready (rs := [16]) (by kernel_rfl) (by simp) ?_
      refine AllReadyH.cons (o := { dst := some 9, op := Go.Op.assign (Go.Operand.tmp 32), type := 66, pos := "grove.go:48", after := #[{ on := 15, ground := Go.Ground.data }, { on := 15, ground := Go.Ground.chain }, { on := 0, ground := Go.Ground.phase }, { on := 1, ground := Go.Ground.phase }, { on := 2, ground := Go.Ground.phase }, { on := 3, ground := Go.Ground.phase }, { on := 4, ground := Go.Ground.phase }, { on := 5, ground := Go.Ground.phase }, { on := 6, ground := Go.Ground.phase }, { on := 7, ground := Go.Ground.phase }, { on := 8, ground := Go.Ground.phase }, { on := 9, ground := Go.Ground.phase }, { on := 10, ground := Go.Ground.phase }, { on := 11, ground := Go.Ground.phase }, { on := 12, ground := Go.Ground.phase }, { on := 13, ground := Go.Ground.phase }, { on := 14, ground := Go.Ground.phase }, { on := 15, ground := Go.Ground.phase }], guard := none }) rfl (fun K hK => ?_) AllReadyH.nil
      go_simp
      refine hK.out _ _ (H2) (fun hHn => ?_)
      clear hK K hH
      have hH := hHn
      clear hHn
      try simp only [Act.put, List.setIfInBounds_toArray, List.set_cons_zero, List.set_cons_succ]
      clear hH
      refine wpAnyH_done (by kernel_rfl) ?_ _
      have HCn : Kp (c + 2 = 2 * (i + 1)) := ⟨by have := HC.out; omega⟩
      go_wp2_with fail
      exact ⟨⟨i + 1, c + 2, by omega, by go_num, HCn, ⟨by have := H1.out; rw [HXX.out] at this; exact this⟩, H2, ⟨H3.out, H4.out⟩⟩, by simp [intOf]; omega⟩
    · have hi'' : i = m := by omega
      subst hi''
      have hcl : ¬ (c : Int) < (n : Int) := by have := HC.out; have := HN.out; omega
      have G1' := Kp.mk G1.out
      rw [List.take_of_length_le (by rw [upG_len]; exact Nat.le_refl _)] at G1'
      go_wp2_with fail
      go_ret
      exact ⟨_, rfl, by rw [← HA.out]; exact G1'.out, by rw [← HA.out]; exact G3.out.1⟩
end Go.Proofs.YtahmioiefmheeaaDoor
