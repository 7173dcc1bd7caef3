/-
  grove.halved.
  Element, where there is one.
  The document's example.
  SpringNil.
  What the document's answer says of rules; a spring that may not be.
-/
import Derived.Test.YtibbinenhmiclaaDoorSn12
import Derived.Deep.AppendLies
namespace Go.Proofs.YtibbinenhmiclaaDoor
open Go.RowKit

theorem wp_buildSlice_one {P : Program} {o : Oper} {a : Act} {w : World} {K : Act → World → Prop} {Q : Exit → Act → World → Prop} (t : TypeId) (len : Nat) (x : Operand) (ho : o.op = .buildSlice t len #[(0, x)])
    (u : Value) (hx : a.eval x = u) (v : Value) (w' : World) (hrun : (Instr.buildSlice t len #[(0, u)]).run P w = .ok v w') (h : K (a.put o.dst v) w') : o.wp P a w K Q := by
  subst hx
  unfold Oper.wp execOp
  simp only [ho, Sem.run_bind, List.map_toArray, List.map_cons, List.map_nil, hrun, Result.andThen_ok]
  exact h
theorem range_seg {w : World} {B i : Nat} {p : List Int} (h : w.rangeAt B 0 (kv .u8 p)) (_hi : (i + 1) * 16 ≤ p.length) : w.rangeAt B (i * 16) (kv .u8 (segL p i)) := fun j v hj => by
  unfold segL at hj
  have hj16 : j < 16 := by
    have := (List.getElem?_eq_some_iff.1 hj).1
    simp at this
    omega
  have h2 := h (i * 16 + j) v (by
    rw [List.getElem?_map] at hj ⊢
    rw [List.getElem?_take, if_pos hj16, List.getElem?_drop] at hj
    exact hj)
  rw [Nat.zero_add] at h2
  exact h2
/-- The row above a row. -/
def upG (d e v : Int) (p : List Int) (m : Nat) : List Int := rowsL (fun i => shortL (aboveT d e v (segL p (2 * i)) (segL p (2 * i + 1)))) m
theorem upG_len (d e v : Int) (p : List Int) (m : Nat) : (upG d e v p m).length = m * 16 := rowsL_len (fun _ => shortL_len _) m
theorem upG_bytes (d e v : Int) (p : List Int) (m : Nat) : Bytes (upG d e v p m) := rowsL_bytes (fun _ => shortL_bytes _) m
theorem upG_seg (d e v : Int) (p : List Int) (m i : Nat) (hi : i < m) : segL (upG d e v p m) i = shortL (aboveT d e v (segL p (2 * i)) (segL p (2 * i + 1))) := rowsL_mid (f := fun i => shortL (aboveT d e v (segL p (2 * i)) (segL p (2 * i + 1)))) (fun _ => shortL_len _) m i hi
set_option maxRecDepth 100000 in
set_option maxHeartbeats 4000000 in
theorem halved_any (d e v : Int) (p : List Int) (n m B cap : Nat) (w : World) (hk : KonIs w) (he : 0 ≤ e ∧ e < 4294967296) (hp : p.length = n * 16) (hb : Bytes p) (hn : n = 2 * m) (hm : m ≤ 32) (hr : w.rangeAt B 0 (kv .u8 p)) (hB : B < w.heap.size) :
    Calls Tryd.prog 56 #[.int .i64 d, .int .u32 e, .int .i64 v, .slice (some ⟨B, 0, none⟩) n cap] w fun r w' => ∃ v', r = .returned v' ∧ w'.ownsRow w.heap.size 43 16 v' m (bv (upG d e v p m)) ∧ Below w.heap.size w w' := by
  have HK := Kp.mk hk
  have HE := Kp.mk he
  have HP := Kp.mk hp
  have HPb := Kp.mk hb
  have HR := Kp.mk hr
  obtain ⟨i0, hi, hz0, hz1, hz2⟩ := info_parts info33'
  obtain ⟨A, hA⟩ : ∃ A, A = w.heap.size := ⟨_, rfl⟩
  have HA := Kp.mk hA
  have HBA : Kp (B < A) := ⟨by rw [hA]; exact hB⟩
  have hn64 : n ≤ 64 := by omega
  have HN := Kp.mk hn
  clear hk he hp hb hr hB hn
  go_enter Tryd.func56, Tryd.ntmps56
  go_wp2_with fail
  go_loopw [9, 10] (fun v9 c9 wr => ∃ i c : Nat, i ≤ m ∧ c9 = .int .i64 c ∧ Kp (c = 2 * i) ∧ Kp (wr.ownsRow A 43 16 v9 i (bv ((upG d e v p m).take (i * 16)))) ∧ Kp (wr.rangeAt B 0 (kv .u8 p)) ∧ Kp (Below A w wr ∧ A ≤ wr.heap.size)) (fun _ c _ => n - (intOf c).toNat)
  case atStart => exact ⟨0, 0, by omega, rfl, ⟨rfl⟩, ⟨World.ownsRow_nil _ _ _ _⟩, HR, ⟨by rw [hA]; exact Below.refl _ _, by rw [hA]; exact Nat.le_refl _⟩⟩
  case round =>
    obtain ⟨i, c, hi', rfl, HC, G1, G2, G3⟩ := hrel
    clear hA
    by_cases hlt : i < m
    · have hcn : c + 1 < n := by have := HC.out; have := HN.out; omega
      have hcl : (c : Int) < (n : Int) := by omega
      obtain ⟨x1, hx1⟩ : ∃ x, x = segL p c := ⟨_, rfl⟩
      obtain ⟨x2, hx2⟩ : ∃ x, x = segL p (c + 1) := ⟨_, rfl⟩
      have HX1 : Kp (x1 = segL p c ∧ x1.length = 16 ∧ Bytes x1) := ⟨⟨hx1, by rw [hx1]; exact segL_len HP.out (by omega), by rw [hx1]; exact HPb.out.seg _⟩⟩
      have HX2 : Kp (x2 = segL p (c + 1) ∧ x2.length = 16 ∧ Bytes x2) := ⟨⟨hx2, by rw [hx2]; exact segL_len HP.out (by omega), by rw [hx2]; exact HPb.out.seg _⟩⟩
      obtain ⟨x, hx⟩ : ∃ x, x = shortL (aboveT d e v x1 x2) := ⟨_, rfl⟩
      have HXl : Kp (x.length = 16) := ⟨by rw [hx]; exact shortL_len _⟩
      have HXe : Kp (shortL (aboveT d e v x1 x2) = x) := ⟨hx.symm⟩
      have HXX : Kp (bv ((upG d e v p m).take (i * 16)) ++ bv x = bv ((upG d e v p m).take ((i + 1) * 16))) := ⟨by
        have h1 := upG_seg d e v p m i hlt
        rw [← HC.out, ← hx1, ← hx2, ← hx] at h1
        rw [← h1]
        exact take16 _ _⟩
      generalize bv ((upG d e v p m).take (i * 16)) = xs at G1 HXX
      clear hx1 hx2 hx
      go_wp2_with fail
      refine wp_region_held_drew (S := fun w' => Kp (w'.rangeAt B 0 (kv .u8 p))) (by kernel_rfl) (⟨G2.out⟩) (fun hH => ?_)
      refine wpAnyH_take (i := 0) (oi := { dst := some 17, op := Go.Op.move (Go.Operand.tmp 9), type := 50, pos := "grove.go:48", after := #[], guard := none }) (v := u9) rfl (by kernel_rfl) (by kernel_rfl) (by kernel_rfl) (fun _ _ _ h => h) (Or.inl ⟨by rfl, fun w hS => by first | rfl | go_simp⟩) hH ?_
      simp only [Act.put, List.setIfInBounds_toArray, List.set_cons_zero, List.set_cons_succ]
      refine wpAnyH_take (i := 1) (oi := { dst := some 18, op := Go.Op.move (Go.Operand.tmp 0), type := 3, pos := "grove.go:48", after := #[], guard := none }) (v := .int .i64 d) rfl (by kernel_rfl) (by kernel_rfl) (by kernel_rfl) (fun _ _ _ h => h) (Or.inl ⟨by rfl, fun w hS => by first | rfl | go_simp⟩) hH ?_
      simp only [Act.put, List.setIfInBounds_toArray, List.set_cons_zero, List.set_cons_succ]
      refine wpAnyH_take (i := 2) (oi := { dst := some 19, op := Go.Op.move (Go.Operand.tmp 1), type := 25, pos := "grove.go:48", after := #[], guard := none }) (v := .int .u32 e) rfl (by kernel_rfl) (by kernel_rfl) (by kernel_rfl) (fun _ _ _ h => h) (Or.inl ⟨by rfl, fun w hS => by first | rfl | go_simp⟩) hH ?_
      simp only [Act.put, List.setIfInBounds_toArray, List.set_cons_zero, List.set_cons_succ]
      refine wpAnyH_take (i := 3) (oi := { dst := some 20, op := Go.Op.move (Go.Operand.tmp 2), type := 3, pos := "grove.go:48", after := #[], guard := none }) (v := .int .i64 v) rfl (by kernel_rfl) (by kernel_rfl) (by kernel_rfl) (fun _ _ _ h => h) (Or.inl ⟨by rfl, fun w hS => by first | rfl | go_simp⟩) hH ?_
      simp only [Act.put, List.setIfInBounds_toArray, List.set_cons_zero, List.set_cons_succ]
      refine wpAnyH_take (i := 4) (oi := { dst := some 21, op := Go.Op.move (Go.Operand.tmp 3), type := 50, pos := "grove.go:48", after := #[], guard := none }) (v := .slice (some ⟨B, 0, none⟩) n cap) rfl (by kernel_rfl) (by kernel_rfl) (by kernel_rfl) (fun _ _ _ h => h) (Or.inl ⟨by rfl, fun w hS => by first | rfl | go_simp⟩) hH ?_
      simp only [Act.put, List.setIfInBounds_toArray, List.set_cons_zero, List.set_cons_succ]
      refine wpAnyH_take (i := 5) (oi := { dst := some 22, op := Go.Op.move (Go.Operand.tmp 10), type := 3, pos := "grove.go:48", after := #[], guard := none }) (v := .int .i64 c) rfl (by kernel_rfl) (by kernel_rfl) (by kernel_rfl) (fun _ _ _ h => h) (Or.inl ⟨by rfl, fun w hS => by first | rfl | go_simp⟩) hH ?_
      simp only [Act.put, List.setIfInBounds_toArray, List.set_cons_zero, List.set_cons_succ]
      refine wpAnyH_take (i := 6) (oi := { dst := some 23, op := Go.Op.indexAddr 50 (Go.Operand.tmp 21) (Go.Operand.tmp 22), type := 0, pos := "grove.go:48", after := #[{ on := 4, ground := Go.Ground.data }, { on := 5, ground := Go.Ground.data }], guard := none }) (v := .pointer (some ⟨B, c * 16, none⟩)) rfl (by kernel_rfl) (by kernel_rfl) (by kernel_rfl) (fun _ _ _ h => h) (Or.inl ⟨by rfl, fun w hS => exec_idx66 (x := .tmp 21) (y := .tmp 22) (B := B) (n := n) (cap := cap) (j := c) rfl rfl rfl rfl (by omega)⟩) hH ?_
      simp only [Act.put, List.setIfInBounds_toArray, List.set_cons_zero, List.set_cons_succ]
      refine wpAnyH_take (i := 7) (oi := { dst := some 24, op := Go.Op.load 43 (Go.Operand.tmp 23), type := 43, pos := "grove.go:48", after := #[{ on := 6, ground := Go.Ground.data }], guard := none }) (v := dgV x1) rfl (by kernel_rfl) (by kernel_rfl) (by kernel_rfl) (fun _ _ _ h => h) (Or.inl ⟨by rfl, fun w hS => exec_load_at33 (x := .tmp 23) rfl rfl (by rw [HX1.out.1]; exact range_seg hS.out (by have := HP.out; omega)) HX1.out.2.1⟩) hH ?_
      simp only [Act.put, List.setIfInBounds_toArray, List.set_cons_zero, List.set_cons_succ]
      refine wpAnyH_take (i := 8) (oi := { dst := some 25, op := Go.Op.move (Go.Operand.tmp 3), type := 50, pos := "grove.go:48", after := #[], guard := none }) (v := .slice (some ⟨B, 0, none⟩) n cap) rfl (by kernel_rfl) (by kernel_rfl) (by kernel_rfl) (fun _ _ _ h => h) (Or.inl ⟨by rfl, fun w hS => by first | rfl | go_simp⟩) hH ?_
      simp only [Act.put, List.setIfInBounds_toArray, List.set_cons_zero, List.set_cons_succ]
      refine wpAnyH_take (i := 9) (oi := { dst := some 26, op := Go.Op.move (Go.Operand.tmp 10), type := 3, pos := "grove.go:48", after := #[], guard := none }) (v := .int .i64 c) rfl (by kernel_rfl) (by kernel_rfl) (by kernel_rfl) (fun _ _ _ h => h) (Or.inl ⟨by rfl, fun w hS => by first | rfl | go_simp⟩) hH ?_
      simp only [Act.put, List.setIfInBounds_toArray, List.set_cons_zero, List.set_cons_succ]
      refine wpAnyH_take (i := 10) (oi := { dst := some 27, op := Go.Op.binOp Go.BinOp.add 3 (Go.Operand.tmp 26) (Go.Operand.const (Go.Value.int Go.IntKind.i64 1)) 3, type := 3, pos := "grove.go:48", after := #[{ on := 9, ground := Go.Ground.data }], guard := none }) (v := .int .i64 ((c : Int) + 1)) rfl (by kernel_rfl) (by kernel_rfl) (by kernel_rfl) (fun _ _ _ h => h) (Or.inl ⟨by rfl, fun w hS => by have e1 : IntKind.i64.wrap ((c : Int) + 1) = (c : Int) + 1 := IntWalk.i64_in _ (by omega); go_simp⟩) hH ?_
      simp only [Act.put, List.setIfInBounds_toArray, List.set_cons_zero, List.set_cons_succ]
      refine wpAnyH_take (i := 11) (oi := { dst := some 28, op := Go.Op.indexAddr 50 (Go.Operand.tmp 25) (Go.Operand.tmp 27), type := 0, pos := "grove.go:48", after := #[{ on := 8, ground := Go.Ground.data }, { on := 10, ground := Go.Ground.data }], guard := none }) (v := .pointer (some ⟨B, (c + 1) * 16, none⟩)) rfl (by kernel_rfl) (by kernel_rfl) (by kernel_rfl) (fun _ _ _ h => h) (Or.inl ⟨by rfl, fun w hS => exec_idx66 (x := .tmp 25) (y := .tmp 27) (B := B) (n := n) (cap := cap) (j := c + 1) rfl rfl rfl (by omega) (by omega)⟩) hH ?_
      simp only [Act.put, List.setIfInBounds_toArray, List.set_cons_zero, List.set_cons_succ]
      refine wpAnyH_take (i := 12) (oi := { dst := some 29, op := Go.Op.load 43 (Go.Operand.tmp 28), type := 43, pos := "grove.go:48", after := #[{ on := 11, ground := Go.Ground.data }], guard := none }) (v := dgV x2) rfl (by kernel_rfl) (by kernel_rfl) (by kernel_rfl) (fun _ _ _ h => h) (Or.inl ⟨by rfl, fun w hS => exec_load_at33 (x := .tmp 28) rfl rfl (by rw [HX2.out.1]; exact range_seg hS.out (by have := HP.out; omega)) HX2.out.2.1⟩) hH ?_
      simp only [Act.put, List.setIfInBounds_toArray, List.set_cons_zero, List.set_cons_succ]
      refine wpAnyH_ready (rs := [13]) (by kernel_rfl) (by simp) ?_
      refine AllReadyH.cons (o := { dst := some 30, op := Go.Op.call { callee := Go.Callee.value (Go.Operand.func 66), args := #[Go.Operand.tmp 18, Go.Operand.tmp 19, Go.Operand.tmp 20, Go.Operand.tmp 24, Go.Operand.tmp 29], argTypes := #[3, 25, 3, 43, 43] }, type := 43, pos := "grove.go:48", after := #[{ on := 1, ground := Go.Ground.data }, { on := 2, ground := Go.Ground.data }, { on := 3, ground := Go.Ground.data }, { on := 7, ground := Go.Ground.data }, { on := 12, ground := Go.Ground.data }], guard := none }) rfl (fun K hK => ?_) AllReadyH.nil
      go_simp
      refine (above_any d e v x1 x2 wr.drew (HK.out.keep (by rw [← HA.out]; exact G3.out.1.drew)) HE.out HX1.out.2.1 HX1.out.2.2 HX2.out.2.1 HX2.out.2.2).mono ?_
      rintro r w1 ⟨rfl, hb⟩
      have F1 : Kp (w1.ownsRow A 43 16 u9 i xs) := ⟨ownsRow_below (w := wr.drew) G1.out hb⟩
      have F2 : Kp (w1.rangeAt B 0 (kv .u8 p)) := ⟨fun j v hj => (hb.cell (p := ⟨B, 0 + j, none⟩) (by have := HBA.out; have := G3.out.2; show B < wr.heap.size; omega)).trans (G2.out j v hj)⟩
      have F3 : Kp (Below A w w1 ∧ A ≤ w1.heap.size) := ⟨(G3.out.1.drew).trans (hb.mono G3.out.2), Nat.le_trans G3.out.2 hb.size⟩
      clear hb G1 G2 G3
      rw [HXe.out]
      refine hK.out _ _ (F2) (fun hHn => ?_)
      clear hK K hH
      have hH := hHn
      clear hHn
      try simp only [Act.put, List.setIfInBounds_toArray, List.set_cons_zero, List.set_cons_succ]
      refine wpAnyH_ready (rs := [14]) (by kernel_rfl) (by simp) ?_
      refine AllReadyH.cons (o := { dst := some 31, op := Go.Op.buildSlice 50 1 #[(0, Go.Operand.tmp 30)], type := 50, pos := "grove.go:48", after := #[{ on := 13, ground := Go.Ground.data }], guard := none }) rfl (fun K hK => ?_) AllReadyH.nil
      rw [if_pos (by rfl)]
      refine wp_buildSlice_one 50 1 (.tmp 30) rfl (dgV x) rfl _ _ (build66 HXl.out w1) ?_
      refine hK.out _ _ (⟨fun j v hj => ((more (Below.refl w1.heap.size w1) _).cell (p := ⟨B, 0 + j, none⟩) (by have := HBA.out; have := F3.out.2; show B < w1.heap.size; omega)).trans (F2.out j v hj)⟩) (fun hHn => ?_)
      clear hK K hH
      have hH := hHn
      clear hHn
      try simp only [Act.put, List.setIfInBounds_toArray, List.set_cons_zero, List.set_cons_succ]
      refine wpAnyH_ready (rs := [15]) (by kernel_rfl) (by simp) ?_
      refine AllReadyH.cons (o := { dst := some 32, op := Go.Op.call { callee := Go.Callee.builtin Go.Builtin.append, args := #[Go.Operand.tmp 17, Go.Operand.tmp 31], argTypes := #[50, 50] }, type := 50, pos := "grove.go:48", after := #[{ on := 0, ground := Go.Ground.data }, { on := 14, ground := Go.Ground.data }, { on := 13, ground := Go.Ground.chain }], guard := none }) rfl (fun K hK => ?_) AllReadyH.nil
      refine step_append_lies _ rfl (.tmp 17) (.tmp 31) 50 rfl A 43 i0 (.agg (kv .u8 (fill 16 [])).toArray) 16 16 Tryd.underlying50 hi hz0 hz1 hz2 rfl (by decide) u9 i xs rfl (F1.out.alloc _) ⟨w1.heap.size, 0, none⟩ 1 1 (bv x) rfl ?d9 (row_new _ _ _) ?d1 (by decide) ?d3 ?d4 ?d5 (w1.heap.size + 1) ?d6 ?_
      case d9 => rw [bv_len, HXl.out]
      case d1 => exact bv_one _
      case d3 => unfold maxLen; omega
      case d4 => omega
      case d5 => have := F3.out.2; simp; omega
      case d6 => simp
      intro g cap2 w3 ho hg hv hlt
      have H3 : Kp (Below A w w3) := ⟨below_row_grown (F3.out.1.alloc F3.out.2 _) (by have := F3.out.2; simp; omega) (F1.out.alloc _) hg⟩
      have H4 : Kp (A ≤ w3.heap.size) := ⟨Nat.le_trans F3.out.2 (Nat.le_trans (by simp) hg.size)⟩
      have H1 := Kp.mk ho
      have H2 : Kp (w3.rangeAt B 0 (kv .u8 p)) := ⟨fun j v hj => by
        have h9 := H3.out.block B HBA.out
        exact (World.cell?_of_block (w := w) (a := ⟨B, 0 + j, none⟩) h9).trans (HR.out j v hj)⟩
      clear ho hg hv hlt F1 F2 F3
      refine hK.out _ _ (H2) (fun hHn => ?_)
      clear hK K hH
      have hH := hHn
      clear hHn
      try simp only [Act.put, List.setIfInBounds_toArray, List.set_cons_zero, List.set_cons_succ]
      refine wpAnyH_ready (rs := [16]) (by kernel_rfl) (by simp) ?_
      refine AllReadyH.cons (o := { dst := some 9, op := Go.Op.assign (Go.Operand.tmp 32), type := 50, pos := "grove.go:48", after := #[{ on := 15, ground := Go.Ground.data }, { on := 15, ground := Go.Ground.chain }, { on := 0, ground := Go.Ground.phase }, { on := 1, ground := Go.Ground.phase }, { on := 2, ground := Go.Ground.phase }, { on := 3, ground := Go.Ground.phase }, { on := 4, ground := Go.Ground.phase }, { on := 5, ground := Go.Ground.phase }, { on := 6, ground := Go.Ground.phase }, { on := 7, ground := Go.Ground.phase }, { on := 8, ground := Go.Ground.phase }, { on := 9, ground := Go.Ground.phase }, { on := 10, ground := Go.Ground.phase }, { on := 11, ground := Go.Ground.phase }, { on := 12, ground := Go.Ground.phase }, { on := 13, ground := Go.Ground.phase }, { on := 14, ground := Go.Ground.phase }, { on := 15, ground := Go.Ground.phase }], guard := none }) rfl (fun K hK => ?_) AllReadyH.nil
      go_simp
      refine hK.out _ _ (H2) (fun hHn => ?_)
      clear hK K hH
      have hH := hHn
      clear hHn
      try simp only [Act.put, List.setIfInBounds_toArray, List.set_cons_zero, List.set_cons_succ]
      clear hH
      refine wpAnyH_done (by kernel_rfl) ?_ _
      have HCn : Kp (c + 2 = 2 * (i + 1)) := ⟨by have := HC.out; omega⟩
      go_wp2_with fail
      exact ⟨⟨i + 1, c + 2, by omega, by go_num, HCn, ⟨by have := H1.out; rw [HXX.out] at this; exact this⟩, H2, ⟨H3.out, H4.out⟩⟩, by simp [intOf]; omega⟩
    · have hi'' : i = m := by omega
      subst hi''
      have hcl : ¬ (c : Int) < (n : Int) := by have := HC.out; have := HN.out; omega
      have G1' := Kp.mk G1.out
      rw [List.take_of_length_le (by rw [upG_len]; exact Nat.le_refl _)] at G1'
      go_wp2_with fail
      go_ret
      exact ⟨_, rfl, by rw [← HA.out]; exact G1'.out, by rw [← HA.out]; exact G3.out.1⟩
end Go.Proofs.YtibbinenhmiclaaDoor

namespace Go.Proofs.YtibbinenhmiclaaDoor
open Go.RowKit

theorem elsL_seg (m : SpM) (q : Int) {r : Nat} : ∀ {k : Nat}, r < k → ((elsL m q k).drop (r * 16)).take 16 = elR m q r
  | 0, h => absurd h (by omega)
  | k + 1, h => by
    rw [elsL_succ]
    by_cases hk : r < k
    · rw [List.drop_append_of_le_length (by rw [elsL_len]; omega), List.take_append_of_le_length (by rw [List.length_drop, elsL_len]; omega)]
      exact elsL_seg m q hk
    · obtain rfl : r = k := by omega
      rw [List.drop_append, List.drop_eq_nil_of_le (by rw [elsL_len]; omega), List.nil_append, elsL_len, Nat.sub_self, List.drop_zero]
      exact List.take_of_length_le (by rw [elR_len]; omega)
theorem own_rangeS {w : World} {base m : Nat} {v : Value} {p : List Int} (h : w.ownsRow base 43 16 v m (bv p)) (h0 : 0 < m) : ∃ C c, v = .slice (some ⟨C, 0, none⟩) m c ∧ base ≤ C ∧ C < w.heap.size ∧ w.rangeAt C 0 (kv .u8 p) := by
  rcases h.2 with ⟨_, hz⟩ | ⟨g, cap, cur, rfl, hb, hg, _, _, _, ht⟩
  · omega
  · refine ⟨g, cap, rfl, hb, (Array.getElem?_eq_some_iff.1 hg).1, fun j v hj => ?_⟩
    rw [cell_of_row w g (0 + j) cur 43 (0, 0) hg, Nat.zero_add, ← Array.getElem?_toList]
    have hj2 : (bv p)[j]? = some v := hj
    rw [← ht, List.getElem?_take] at hj2
    split at hj2
    · exact hj2
    · cases hj2
theorem own_segS {w : World} {B k : Nat} {v : Value} {m : SpM} {q : Int} (h : w.ownsRow B 43 16 v k (bv (elsL m q k))) {r : Nat} (hr : r < k) : ∃ g cap, v = .slice (some ⟨g, 0, none⟩) k cap ∧ w.rangeAt g (r * 16) (kv .u8 (elR m q r)) := by
  obtain ⟨g, cap, e, _, _, hg⟩ := own_rangeS h (by omega)
  refine ⟨g, cap, e, ?_⟩
  have h1 := range_seg (i := r) hg (by rw [elsL_len]; exact Nat.mul_le_mul_right 16 hr)
  have h2 : segL (elsL m q k) r = elR m q r := elsL_seg m q hr
  rw [h2] at h1
  exact h1
theorem info43R (m : SpM) (q : Int) (r : Nat) : (Tryd.prog.info? 43).map (·.size) = some (kv .u8 (elR m q r)).length := by rw [List.length_map, elR_len]; kernel_rfl
/-- Another block turns: a spring stays. -/
theorem SpIs.turn {w w' : World} {B S C b : Nat} {m : SpM} {n : Nat} {f : Nat → Option Value} {g : GS} {mk : Int} {o : Obj} (h : SpIs w B S C m n f g mk) (hT : Turn b o w w') (hS : b ≠ S) (hC : b ≠ C) (hv : ∀ i v k, i < n → f i = some v → v.ownBlock = some k → k ≠ b) : SpIs w' B S C m n f g mk :=
  ⟨hT.keep h.s (Ne.symm hS), hT.keep h.c (Ne.symm hC), h.bs, h.bc, fun i v hi hf => by
    refine (h.el i v hi hf).kept hT.grown ?_
    cases hk : v.ownBlock with
    | none => exact .inl rfl
    | some k =>
      refine .inr fun e => ?_
      exact hv i v k hi hf hk (by simpa using e)⟩
theorem Off.new {B S C b : Nat} {o : Obj} {w W W' : World} (h : Off B S C w W) (hT : Turn b o W W') (hb : w.heap.size ≤ b) (hB : B ≤ w.heap.size) : Off B S C w W' :=
  ⟨h.b.trans (hT.below (by omega) (Nat.le_trans hB h.b.size)), fun k hk h1 h2 => (hT.other k (Nat.lt_of_lt_of_le hk h.b.size) (by omega)).trans (h.o k hk h1 h2)⟩
set_option maxRecDepth 100000 in
set_option maxHeartbeats 4000000 in
theorem element_ok (m : SpM) (B S C n : Nat) (f : Nat → Option Value) (g : GS) (mk : Int) (q r : Nat) (w : World) (hk : KonIs w) (ho : SpOk m) (h : SpIs w B S C m n f g mk) (hb0 : 0 < B) (hbw : B ≤ w.heap.size) (hq : q < n) (hn : n ≤ 64) (hmk : 0 ≤ mk ∧ mk ≤ 1000) (hr : (r : Int) ≤ m.st) :
    Calls Tryd.prog 18 #[.pointer (some ⟨S, 0, none⟩), .int .i64 q, .int .i64 r] w fun e w' => ∃ v f' mk', e = .returned (.tuple #[dgV (elR m q r), .int .i64 0]) ∧ SpIs w' B S C m n f' g mk' ∧ f' q = some v ∧
      (f q ≠ none → f' = f ∧ mk' = mk) ∧ (f q = none → f' = updF f q v ∧ mk' = mk + 1) ∧ Off B S C w w' ∧ KonIs w' := by
  obtain ⟨A, hA⟩ : ∃ A, A = w.heap.size := ⟨_, rfl⟩
  have HA := Kp.mk hA
  have H0 : Kp (Row (w.alloc z50) A 43 .u8 zeroS ∧ SpIs (w.alloc z50) B S C m n f g mk ∧ Below A w (w.alloc z50) ∧ KonIs (w.alloc z50)) := ⟨Blk.newAt _ hA, h.keep (more (Below.refl _ _) _), by rw [hA]; exact more (Below.refl _ _) _, hk.keep (more (Below.refl _ _) _)⟩
  have HQ := Kp.mk (And.intro hq hn)
  have HRr := Kp.mk hr
  have HN : Kp (∀ i v k, i < n → f i = some v → v.ownBlock = some k → k ≠ A) := ⟨fun i v k hi hf hk => by have := ((h.el i v hi hf).lt k hk).2; omega⟩
  have HSA : Kp (A ≠ S ∧ A ≠ C) := ⟨by have := h.s.lt; omega, by have := h.c.lt; omega⟩
  have HMK := Kp.mk hmk
  have HB := Kp.mk (And.intro hb0 hbw)
  have HO := Kp.mk ho
  clear h hb0 hbw ho hk hq hn hmk hr
  go_enter Tryd.func18, Tryd.ntmps18
  go_wp2_with fail
  rw [← hA]
  clear hA
  refine calls_world (fun W => Row W A 43 .u8 zeroS ∧ SpIs W B S C m n f g mk ∧ Below A w W ∧ KonIs W) H0.out ?_
  rintro w1 ⟨h1, h2, h3, h4⟩
  have HR := Kp.mk h1
  have H1 := Kp.mk h2
  have HBl := Kp.mk h3
  have HK := Kp.mk h4
  clear h1 h2 h3 h4 H0
  refine (hasSp_any m B S C n f g mk q _ HO.out H1.out).mono ?_
  rintro e w2 ⟨rfl, rfl⟩
  have q1 : w2.cell? ⟨S, 1, none⟩ = some (.int .i64 m.st) := (H1.out.s.cell 1).trans (by rw [List.getElem?_toArray]; rfl)
  have hx1 : decide ((r : Int) < 0) = false := by simp
  have hx2 : decide (m.st < (r : Int)) = false := by have := HRr.out; simp; omega
  have hd : decide (0 ≤ (q : Int) ∧ (q : Int) < n) = true := decide_eq_true (by have := HQ.out.1; omega)
  rw [hd]
  clear hd
  go_wp2_with fail
  refine (elements_any m B S C n f g mk q w2 HK.out HO.out H1.out HB.out.1 (by have := HB.out.2; have := HBl.out.size; rw [← HA.out] at *; omega) HQ.out.1 HQ.out.2 HMK.out).mono ?_
  rintro e w3 ⟨a, c, f', mk', rfl, h1, h2, h3, h4, h5, h6⟩
  clear q1 hx1 hx2
  have HE := Kp.mk (own_segS (h1.el q _ HQ.out.1 h2) (r := r) (by have := HRr.out; have := HO.out.s; omega))
  obtain ⟨G, cap, e9, hG⟩ := HE.out
  simp only [Value.slice.injEq, true_and] at e9
  obtain ⟨rfl, rfl⟩ := e9
  have HG := Kp.mk hG
  have H1 := Kp.mk h1
  have H26 := Kp.mk (And.intro h2 (And.intro h3 (And.intro h4 h6)))
  have H5 := Kp.mk h5
  have HRi := Kp.mk (show r < m.st.toNat + 1 by have := HRr.out; have := HO.out.s; omega)
  have hRi := HRi.out
  clear h1 h2 h3 h4 h5 h6 hG HE
  have HR3 : Kp (Row w3 A 43 .u8 zeroS) := ⟨H5.out.blk HR.out HSA.out.1 HSA.out.2⟩
  have HF := Kp.mk (HR3.out.setRow (elR m q r))
  have HZ := Kp.mk (elR_len m q r)
  have hT := Turn.ofRowS HR3.out (kv .u8 (elR m q r)).toArray
  have HO9 : Kp (Off B S C w (w3.setRow A (kv .u8 (elR m q r)).toArray)) := ⟨((Off.of HBl.out HA.out (by have := HB.out.2; rw [HA.out]; omega)).trans H5.out).new hT (by rw [HA.out]; exact Nat.le_refl _) HB.out.2⟩
  have HK9 : Kp (KonIs (w3.setRow A (kv .u8 (elR m q r)).toArray)) := ⟨H26.out.2.2.2.turn hT (by have := HB.out; rw [HA.out]; omega)⟩
  have HS9 : Kp (SpIs (w3.setRow A (kv .u8 (elR m q r)).toArray) B S C m n f' g mk') := ⟨H1.out.turn hT HSA.out.1 HSA.out.2 (fun i v k hi hf hk => by
    by_cases hq : f q = none
    · obtain ⟨e1, -, h3⟩ := H26.out.2.2.1 hq
      rw [e1] at hf
      unfold updF at hf
      by_cases hi2 : i = q
      · rw [if_pos hi2] at hf
        obtain rfl := Option.some.inj hf
        have h9 := h3 k hk
        have := HBl.out.size
        have h8 := HR.out.lt
        omega
      · rw [if_neg hi2] at hf
        exact HN.out i v k hi hf hk
    · rw [(H26.out.2.1 hq).1] at hf
      exact HN.out i v k hi hf hk)⟩
  clear hT
  obtain ⟨x, hx⟩ : ∃ x, x = elR m q r := ⟨_, rfl⟩
  rw [← hx] at HG HF HZ HO9 HK9 HS9
  have HX := Kp.mk hx
  have HI : Kp ((Tryd.prog.info? 43).map (·.size) = some (kv .u8 x).length) := ⟨by rw [hx]; exact info43R m q r⟩
  clear hx
  go_wp2_with (first
    | (refine wpList_load_mid rfl 43 (.tmp 33) rfl G (r * 16) rfl (kv .u8 x) _ HG.out Tryd.underlying43 rfl HI.out ?_)
    | (refine wpList_store_row rfl 43 (.tmp 6) (.tmp 34) rfl A (kv .u8 x).toArray rfl rfl 43 _ HR3.out (cells50 HZ.out) (size50 HZ.out) (kv_all _ _) ?_))
  refine bodyPost_ret (v := .tuple #[dgV x, .int .i64 0]) ?_ rfl ⟨_, f', mk', by rw [HX.out], HS9.out, H26.out.1, H26.out.2.1, fun h => ⟨(H26.out.2.2.1 h).1, (H26.out.2.2.1 h).2.1⟩, HO9.out, HK9.out⟩
  exact results_row_tmp rfl _ _ A 43 (kv .u8 x).toArray (0, 0) _ (.int .i64 0) rfl rfl HF.out Tryd.underlying43 rfl (cells50 HZ.out)
end Go.Proofs.YtibbinenhmiclaaDoor

namespace Go.Proofs.YtibbinenhmiclaaDoor
open Go.RowKit

abbrev mA : SpM := ⟨2, 3, 1, 0, 0, List.replicate 32 0⟩
theorem okA : SpOk mA := ⟨by decide, by decide, by decide, by decide, by decide, rfl, by intro x hx; rw [List.eq_of_mem_replicate hx]; decide⟩
set_option maxRecDepth 100000 in
set_option maxHeartbeats 4000000 in
theorem awakeSp_any (w : World) (hk : KonIs w) : Calls Tryd.prog 12 #[] w fun r w' => r = .returned (.bool true) ∧ Below w.heap.size w w' := by
  have HK := Kp.mk hk
  clear hk
  go_enter Tryd.func12, Tryd.ntmps12
  go_wp2_with fail
  refine (new_ok mA 2 w okA rfl).mono ?_
  rintro r w1 ⟨S, C, rfl, h1, h2⟩
  have HS := Kp.mk h1
  have HB := Kp.mk h2
  clear h1 h2
  go_wp2_with fail
  refine (made_any mA _ S C 2 _ gs0 0 w1 okA HS.out).mono ?_
  rintro r w2 ⟨rfl, rfl⟩
  go_wp2_with fail
  refine (element_bad mA _ S C 2 _ gs0 0 0 9 w2 okA HS.out (by decide)).mono ?_
  rintro r w3 ⟨rfl, h3⟩
  have HS3 := Kp.mk (HS.out.keep h3)
  have HB3 : Kp (Below w.heap.size w w3) := ⟨HB.out.trans (h3.mono HB.out.size)⟩
  clear h3 HS
  go_wp2_with (refine wpList_store_row rfl 43 (.tmp 3) (.tmp 27) rfl w3.heap.size (kv .u8 zeroS).toArray rfl rfl 43 _ (Blk.new w3 z50) (cells50 (l := zeroS) rfl) rfl (kv_all _ _) ?_)
  have hb4 : Below w3.heap.size w3 ((w3.alloc z50).setRow w3.heap.size (kv .u8 zeroS).toArray) := Below.row (more (Below.refl _ _) z50) (Nat.le_refl _) _
  refine calls_world (fun W => SpIs W w.heap.size S C mA 2 (fun _ => none) gs0 0 ∧ Below w.heap.size w W ∧ KonIs W) ⟨HS3.out.keep hb4, HB3.out.trans (hb4.mono HB3.out.size), HK.out.keep (HB3.out.trans (hb4.mono HB3.out.size))⟩ ?_
  clear hb4
  rintro w4 ⟨h1, h2, h3⟩
  have HS4 := Kp.mk h1
  have HB4 := Kp.mk h2
  have HK4 := Kp.mk h3
  clear h1 h2 h3 HS3 HB3
  refine (element_ok mA w.heap.size S C 2 (fun _ => none) gs0 0 1 2 w4 HK4.out okA HS4.out HK.out.pos HB4.out.size (by decide) (by decide) (by decide) (by decide)).mono ?_
  rintro r w5 ⟨v, f', mk', rfl, h1, -, -, h2, h3, h4⟩
  obtain ⟨-, rfl⟩ := h2 rfl
  have HS5 := Kp.mk h1
  have HB5 : Kp (Below w.heap.size w w5) := ⟨HB4.out.trans h3.b⟩
  clear h1 h2 h3 h4 HS4 HB4 HK4
  have HZ := Kp.mk (elR_len mA 1 2)
  have hb6 : Below w5.heap.size w5 ((w5.alloc z50).setRow w5.heap.size (kv .u8 (elR mA 1 2)).toArray) := Below.row (more (Below.refl _ _) z50) (Nat.le_refl _) _
  have HS6 := Kp.mk (HS5.out.keep hb6)
  have HB6 : Kp (Below w.heap.size w ((w5.alloc z50).setRow w5.heap.size (kv .u8 (elR mA 1 2)).toArray)) := ⟨HB5.out.trans (hb6.mono HB5.out.size)⟩
  clear hb6 HS5 HB5
  obtain ⟨x, hx⟩ : ∃ x, x = elR mA 1 2 := ⟨_, rfl⟩
  have e9 : elR mA (1 : Nat) 2 = x := hx.symm
  rw [← hx] at HZ HS6 HB6
  rw [e9]
  clear hx e9
  go_wp2_with (refine wpList_store_row rfl 43 (.tmp 5) (.tmp 32) rfl w5.heap.size (kv .u8 x).toArray rfl rfl 43 _ (Blk.new w5 z50) (cells50 HZ.out) (size50 HZ.out) (kv_all _ _) ?_)
  refine (made_any mA _ S C 2 _ gs0 _ _ okA HS6.out).mono ?_
  rintro r w7 ⟨rfl, rfl⟩
  go_wp2_with fail
  go_ret
  exact ⟨rfl, HB6.out⟩
end Go.Proofs.YtibbinenhmiclaaDoor

namespace Go.Proofs.YtibbinenhmiclaaDoor
open Go.RowKit

theorem eqz43 (w : World) : (Op.equalIn 10000 43 (.agg #[.int .u8 0, .int .u8 0, .int .u8 0, .int .u8 0, .int .u8 0, .int .u8 0, .int .u8 0, .int .u8 0, .int .u8 0, .int .u8 0, .int .u8 0, .int .u8 0, .int .u8 0, .int .u8 0, .int .u8 0, .int .u8 0]) (.agg #[.int .u8 0, .int .u8 0, .int .u8 0, .int .u8 0, .int .u8 0, .int .u8 0, .int .u8 0, .int .u8 0, .int .u8 0, .int .u8 0, .int .u8 0, .int .u8 0, .int .u8 0, .int .u8 0, .int .u8 0, .int .u8 0])).run Tryd.prog w = .ok true w :=
  eqIn50 (p := List.replicate 16 0) (by intro x hx; rw [List.eq_of_mem_replicate hx]; decide) rfl w
set_option maxRecDepth 100000 in
set_option maxHeartbeats 4000000 in
theorem springNil_any (q r : Int) (w : World) (hk : KonIs w) : Calls Tryd.prog 5 #[.int .i64 q, .int .i64 r] w fun e w' => e = .returned (.bool true) ∧ Below w.heap.size w w' := by
  have HK := Kp.mk hk
  clear hk
  go_enter Tryd.func5, Tryd.ntmps5
  go_wp2_with fail
  refine (elementSp_nil q r w).mono ?_
  rintro e w1 ⟨rfl, h1⟩
  have HB1 := Kp.mk h1
  clear h1
  have hb2 : Below w1.heap.size w1 ((w1.alloc z50).setRow w1.heap.size (kv .u8 zeroS).toArray) := Below.row (more (Below.refl _ _) z50) (Nat.le_refl _) _
  have HB2 : Kp (Below w.heap.size w ((w1.alloc z50).setRow w1.heap.size (kv .u8 zeroS).toArray)) := ⟨HB1.out.trans (hb2.mono HB1.out.size)⟩
  clear hb2
  go_wp2_with (refine wpList_store_row rfl 43 (.tmp 6) (.tmp 15) rfl w1.heap.size (kv .u8 zeroS).toArray rfl rfl 43 _ (Blk.new w1 z50) (cells50 (l := zeroS) rfl) rfl (kv_all _ _) ?_)
  refine calls_world (fun W => Below w.heap.size w W) HB2.out ?_
  intro w2 h2
  have HB := Kp.mk h2
  clear h2 HB1 HB2
  refine (pathSp_nil q w2).mono ?_
  rintro e w3 ⟨rfl, rfl⟩
  go_wp2_with fail
  refine (awakeSp_any w3 (HK.out.keep HB.out)).mono ?_
  rintro e w4 ⟨rfl, h4⟩
  have HB4 : Kp (Below w.heap.size w w4) := ⟨HB.out.trans (h4.mono HB.out.size)⟩
  clear h4 HB
  go_wp2_with fail
  refine (rootSp_nil w4).mono ?_
  rintro e w5 ⟨rfl, h5⟩
  have HB5 : Kp (Below w.heap.size w w5) := ⟨HB4.out.trans (h5.mono HB4.out.size)⟩
  clear h5 HB4
  have hz := eqz43 w5
  go_wp2_with fail
  clear hz
  refine (made_nil w5).mono ?_
  rintro e w6 ⟨rfl, rfl⟩
  go_wp2_with fail
  refine (rules_nil w6).mono ?_
  rintro e w7 ⟨rfl, h7⟩
  have HB7 : Kp (Below w.heap.size w w7) := ⟨HB5.out.trans (h7.mono HB5.out.size)⟩
  clear h7 HB5
  go_wp2_with fail
  go_ret
  exact ⟨rfl, HB7.out⟩
theorem springNil_walk (x0 x1 : Int) (w : World) (_w0 : (Lit.int .i64 x0).wf = true) (_w1 : (Lit.int .i64 x1).wf = true) (hk : KonIs w) : Calls Tryd.prog 5 #[.int .i64 x0, .int .i64 x1] w fun r w' => r = .returned (.bool true) ∧ Below w.heap.size w w' := springNil_any x0 x1 w hk
end Go.Proofs.YtibbinenhmiclaaDoor

namespace Go.Proofs.YtibbinenhmiclaaDoor
open Go.RowKit

set_option maxHeartbeats 1600000 in
theorem rrightR_any (wd st ht : Int) (w : World) :
    Calls Tryd.prog 11 #[.agg #[.int .i64 wd, .int .i64 st, .int .i64 ht]] w fun r w' => r = .returned (.bool (rightR wd st ht)) ∧ Below w.heap.size w w' := by
  have hl := lev_range wd
  have HR : Kp (rightR wd st ht = (decide (0 ≤ lev wd) && decide ((1 ≤ st ∧ st ≤ 16) ∧ 0 ≤ ht ∧ ht ≤ 6))) := ⟨rfl⟩
  go_enter Tryd.func11, Tryd.ntmps11
  go_wp2_with fail
  refine (rlevels_any wd _).mono ?_
  rintro r w1 ⟨rfl, rfl⟩
  generalize lev wd = lv at *
  go_wp2_with fail
  all_goals (go_ret; refine ⟨retb (by rw [HR.out]; refine (Bool.eq_iff_iff.2 ?_); simp only [Bool.and_eq_true, decide_eq_true_eq, Bool.false_eq_true, false_iff]; omega), more (Below.refl _ _) _⟩)
/-- May there be a spring? -/
def fitR (m : SpM) : Bool := rightR m.wd m.st m.ht && decide ((0 ≤ m.d ∧ m.d < m.wd) ∧ m.e ≤ 65536)
theorem fitR_ok {m : SpM} (h : fitR m = true) (he : 0 ≤ m.e) (hl : m.seed.length = 32) (hb : Bytes m.seed) : SpOk m := by
  unfold fitR rightR at h
  simp only [Bool.and_eq_true, decide_eq_true_eq] at h
  obtain ⟨⟨h1, h2, h3⟩, h4, h5⟩ := h
  exact ⟨h1, h2, h3, h4, ⟨he, h5⟩, hl, hb⟩
set_option maxRecDepth 100000 in
theorem toSp_any (a b c : Int) (w : World) : Calls Tryd.prog 8 #[.agg #[.int .i64 a, .int .i64 b, .int .i64 c]] w fun r w' => r = .returned (.agg #[.int .i64 a, .int .i64 b, .int .i64 c]) ∧ Below w.heap.size w w' := by
  go_enter Tryd.func8, Tryd.ntmps8
  go_wp2_with fail
  refine bodyPost_ret (v := .agg #[.int .i64 a, .int .i64 b, .int .i64 c]) (results_cell_row rfl _ _ (w.heap.size + 1) 30 _ (0, 0) _ rfl (Blk.newAt _ (by simp)) Tryd.underlying30 rfl info30s) rfl ⟨rfl, ?_⟩
  exact more (more (Below.refl _ _) _) _
set_option maxRecDepth 100000 in
set_option maxHeartbeats 1600000 in
theorem fitsR_any (m : SpM) (w : World) :
    Calls Tryd.prog 9 #[.agg #[.int .i64 m.wd, .int .i64 m.st, .int .i64 m.ht], .int .i64 m.d, .int .u32 m.e] w fun r w' => r = .returned (.bool (fitR m)) ∧ Below w.heap.size w w' := by
  have HF : Kp (fitR m = (rightR m.wd m.st m.ht && decide ((0 ≤ m.d ∧ m.d < m.wd) ∧ m.e ≤ 65536))) := ⟨rfl⟩
  go_enter Tryd.func9, Tryd.ntmps9
  go_wp2_with fail
  refine (rrightR_any m.wd m.st m.ht _).mono ?_
  rintro r w1 ⟨rfl, h1⟩
  have q0 : w1.cell? ⟨w.heap.size, 0, none⟩ = some (.int .i64 m.wd) := (Blk.keep (Blk.new w (.cells #[.int .i64 m.wd, .int .i64 m.st, .int .i64 m.ht] 23)) h1).cell 0
  have HB : Kp (Below w.heap.size w w1) := ⟨(more (Below.refl _ _) _).trans (h1.mono (by simp))⟩
  clear h1
  cases hr : rightR m.wd m.st m.ht
  all_goals rw [hr] at HF
  all_goals clear hr
  all_goals go_wp2_with fail
  all_goals (go_ret; refine ⟨retb (by rw [HF.out]; refine (Bool.eq_iff_iff.2 ?_); simp only [Bool.true_and, Bool.false_and, decide_eq_true_eq, Bool.false_eq_true, false_iff]; try omega), HB.out⟩)
set_option maxRecDepth 100000 in
set_option maxHeartbeats 4000000 in
theorem new_bad (m : SpM) (w : World) (hl : m.seed.length = 32) (hf : fitR m = false) :
    Calls Tryd.prog 7 #[.agg #[.int .i64 m.wd, .int .i64 m.st, .int .i64 m.ht], .agg (bv m.seed).toArray, .int .i64 m.d, .int .u32 m.e] w fun r w' => r = .returned (.tuple #[.pointer none, .int .i64 1]) ∧ Below w.heap.size w w' := by
  have HL := Kp.mk hl
  have HF : Kp ((rightR m.wd m.st m.ht && decide ((0 ≤ m.d ∧ m.d < m.wd) ∧ m.e ≤ 65536)) = false) := ⟨hf⟩
  have hC := fun (w : World) => box_row (t := 70) (cs := bv m.seed) (info70s HL.out) w
  obtain ⟨A, hA⟩ : ∃ A, A = w.heap.size := ⟨_, rfl⟩
  have HAe := Kp.mk hA
  have HB : Kp (Blk ((w.alloc (.cells #[.int .i64 m.wd, .int .i64 m.st, .int .i64 m.ht] 30)).alloc (.cells (bv m.seed).toArray 70)) A (.cells #[.int .i64 m.wd, .int .i64 m.st, .int .i64 m.ht] 30) ∧ Below A w ((w.alloc (.cells #[.int .i64 m.wd, .int .i64 m.st, .int .i64 m.ht] 30)).alloc (.cells (bv m.seed).toArray 70)) ∧ A ≤ ((w.alloc (.cells #[.int .i64 m.wd, .int .i64 m.st, .int .i64 m.ht] 30)).alloc (.cells (bv m.seed).toArray 70)).heap.size) := ⟨(Blk.newAt _ hA).old _, by rw [hA]; exact more (more (Below.refl _ _) _) _, by simp [hA]; omega⟩
  clear hf hl
  go_enter Tryd.func7, Tryd.ntmps7
  go_wp2_with (refine wpList_box_eq rfl 70 (.tmp 1) rfl _ rfl _ _ (hC _) ?_)
  rw [← hA]
  clear hC hA
  generalize (w.alloc (.cells #[.int .i64 m.wd, .int .i64 m.st, .int .i64 m.ht] 30)).alloc (.cells (bv m.seed).toArray 70) = W at *
  refine (rightR_any m.wd m.st m.ht W).mono ?_
  rintro r w1 ⟨rfl, hb⟩
  have HB1 : Kp (Below w.heap.size w w1) := ⟨by rw [← HAe.out]; exact HB.out.2.1.trans (hb.mono HB.out.2.2)⟩
  have q0 : w1.cell? ⟨A, 0, none⟩ = some (.int .i64 m.wd) := (HB.out.1.keep hb).cell 0
  clear hb HB
  cases hr : rightR m.wd m.st m.ht
  · clear hr HF
    go_wp2_with fail
    go_ret2
    exact ⟨rfl, HB1.out⟩
  · rw [hr] at HF
    clear hr
    have hn : ¬ ((0 ≤ m.d ∧ m.d < m.wd) ∧ m.e ≤ 65536) := by have := HF.out; simpa using this
    clear HF
    by_cases h0 : m.d < 0
    · have hd : decide (m.d < 0) = true := decide_eq_true h0
      clear hn h0
      go_wp2_with fail
      go_ret2
      exact ⟨rfl, HB1.out⟩
    · have hd : decide (m.d < 0) = false := decide_eq_false h0
      by_cases h1 : m.wd ≤ m.d
      · have hd1 : decide (m.wd ≤ m.d) = true := decide_eq_true h1
        clear hn h0 h1
        go_wp2_with fail
        go_ret2
        exact ⟨rfl, HB1.out⟩
      · have hd1 : decide (m.wd ≤ m.d) = false := decide_eq_false h1
        have hd2 : decide (65536 < m.e) = true := decide_eq_true (by omega)
        clear hn h0 h1
        go_wp2_with fail
        go_ret2
        exact ⟨rfl, HB1.out⟩
end Go.Proofs.YtibbinenhmiclaaDoor
