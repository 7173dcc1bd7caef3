/-
  grove.halved.
  Element, where there is one.
  ladder.Show.
  The tree over an epoch's ladders: mathematics of layer 7.
-/
import Derived.Test.YtibbinenhmiclaaDoorSn12
import Derived.Deep.AppendLies
namespace Go.Proofs.YtibbinenhmiclaaDoor
open Go.RowKit

theorem wp_buildSlice_one {P : Program} {o : Oper} {a : Act} {w : World} {K : Act → World → Prop} {Q : Exit → Act → World → Prop} (t : TypeId) (len : Nat) (x : Operand) (ho : o.op = .buildSlice t len #[(0, x)])
    (u : Value) (hx : a.eval x = u) (v : Value) (w' : World) (hrun : (Instr.buildSlice t len #[(0, u)]).run P w = .ok v w') (h : K (a.put o.dst v) w') : o.wp P a w K Q := by
  subst hx
  unfold Oper.wp execOp
  simp only [ho, Sem.run_bind, List.map_toArray, List.map_cons, List.map_nil, hrun, Result.andThen_ok]
  exact h
theorem range_seg {w : World} {B i : Nat} {p : List Int} (h : w.rangeAt B 0 (kv .u8 p)) (_hi : (i + 1) * 16 ≤ p.length) : w.rangeAt B (i * 16) (kv .u8 (segL p i)) := fun j v hj => by
  unfold segL at hj
  have hj16 : j < 16 := by
    have := (List.getElem?_eq_some_iff.1 hj).1
    simp at this
    omega
  have h2 := h (i * 16 + j) v (by
    rw [List.getElem?_map] at hj ⊢
    rw [List.getElem?_take, if_pos hj16, List.getElem?_drop] at hj
    exact hj)
  rw [Nat.zero_add] at h2
  exact h2
/-- The row above a row. -/
def upG (d e v : Int) (p : List Int) (m : Nat) : List Int := rowsL (fun i => shortL (aboveT d e v (segL p (2 * i)) (segL p (2 * i + 1)))) m
theorem upG_len (d e v : Int) (p : List Int) (m : Nat) : (upG d e v p m).length = m * 16 := rowsL_len (fun _ => shortL_len _) m
theorem upG_bytes (d e v : Int) (p : List Int) (m : Nat) : Bytes (upG d e v p m) := rowsL_bytes (fun _ => shortL_bytes _) m
theorem upG_seg (d e v : Int) (p : List Int) (m i : Nat) (hi : i < m) : segL (upG d e v p m) i = shortL (aboveT d e v (segL p (2 * i)) (segL p (2 * i + 1))) := rowsL_mid (f := fun i => shortL (aboveT d e v (segL p (2 * i)) (segL p (2 * i + 1)))) (fun _ => shortL_len _) m i hi
set_option maxRecDepth 100000 in
set_option maxHeartbeats 4000000 in
theorem halved_any (d e v : Int) (p : List Int) (n m B cap : Nat) (w : World) (hk : KonIs w) (he : 0 ≤ e ∧ e < 4294967296) (hp : p.length = n * 16) (hb : Bytes p) (hn : n = 2 * m) (hm : m ≤ 32) (hr : w.rangeAt B 0 (kv .u8 p)) (hB : B < w.heap.size) :
    Calls Tryd.prog 56 #[.int .i64 d, .int .u32 e, .int .i64 v, .slice (some ⟨B, 0, none⟩) n cap] w fun r w' => ∃ v', r = .returned v' ∧ w'.ownsRow w.heap.size 43 16 v' m (bv (upG d e v p m)) ∧ Below w.heap.size w w' := by
  have HK := Kp.mk hk
  have HE := Kp.mk he
  have HP := Kp.mk hp
  have HPb := Kp.mk hb
  have HR := Kp.mk hr
  obtain ⟨i0, hi, hz0, hz1, hz2⟩ := info_parts info33'
  obtain ⟨A, hA⟩ : ∃ A, A = w.heap.size := ⟨_, rfl⟩
  have HA := Kp.mk hA
  have HBA : Kp (B < A) := ⟨by rw [hA]; exact hB⟩
  have hn64 : n ≤ 64 := by omega
  have HN := Kp.mk hn
  clear hk he hp hb hr hB hn
  go_enter Tryd.func56, Tryd.ntmps56
  go_wp2_with fail
  go_loopw [9, 10] (fun v9 c9 wr => ∃ i c : Nat, i ≤ m ∧ c9 = .int .i64 c ∧ Kp (c = 2 * i) ∧ Kp (wr.ownsRow A 43 16 v9 i (bv ((upG d e v p m).take (i * 16)))) ∧ Kp (wr.rangeAt B 0 (kv .u8 p)) ∧ Kp (Below A w wr ∧ A ≤ wr.heap.size)) (fun _ c _ => n - (intOf c).toNat)
  case atStart => exact ⟨0, 0, by omega, rfl, ⟨rfl⟩, ⟨World.ownsRow_nil _ _ _ _⟩, HR, ⟨by rw [hA]; exact Below.refl _ _, by rw [hA]; exact Nat.le_refl _⟩⟩
  case round =>
    obtain ⟨i, c, hi', rfl, HC, G1, G2, G3⟩ := hrel
    clear hA
    by_cases hlt : i < m
    · have hcn : c + 1 < n := by have := HC.out; have := HN.out; omega
      have hcl : (c : Int) < (n : Int) := by omega
      obtain ⟨x1, hx1⟩ : ∃ x, x = segL p c := ⟨_, rfl⟩
      obtain ⟨x2, hx2⟩ : ∃ x, x = segL p (c + 1) := ⟨_, rfl⟩
      have HX1 : Kp (x1 = segL p c ∧ x1.length = 16 ∧ Bytes x1) := ⟨⟨hx1, by rw [hx1]; exact segL_len HP.out (by omega), by rw [hx1]; exact HPb.out.seg _⟩⟩
      have HX2 : Kp (x2 = segL p (c + 1) ∧ x2.length = 16 ∧ Bytes x2) := ⟨⟨hx2, by rw [hx2]; exact segL_len HP.out (by omega), by rw [hx2]; exact HPb.out.seg _⟩⟩
      obtain ⟨x, hx⟩ : ∃ x, x = shortL (aboveT d e v x1 x2) := ⟨_, rfl⟩
      have HXl : Kp (x.length = 16) := ⟨by rw [hx]; exact shortL_len _⟩
      have HXe : Kp (shortL (aboveT d e v x1 x2) = x) := ⟨hx.symm⟩
      have HXX : Kp (bv ((upG d e v p m).take (i * 16)) ++ bv x = bv ((upG d e v p m).take ((i + 1) * 16))) := ⟨by
        have h1 := upG_seg d e v p m i hlt
        rw [← HC.out, ← hx1, ← hx2, ← hx] at h1
        rw [← h1]
        exact take16 _ _⟩
      generalize bv ((upG d e v p m).take (i * 16)) = xs at G1 HXX
      clear hx1 hx2 hx
      go_wp2_with fail
      refine wp_region_held_drew (S := fun w' => Kp (w'.rangeAt B 0 (kv .u8 p))) (by kernel_rfl) (⟨G2.out⟩) (fun hH => ?_)
      refine wpAnyH_take (i := 0) (oi := { dst := some 17, op := Go.Op.move (Go.Operand.tmp 9), type := 50, pos := "grove.go:48", after := #[], guard := none }) (v := u9) rfl (by kernel_rfl) (by kernel_rfl) (by kernel_rfl) (fun _ _ _ h => h) (Or.inl ⟨by rfl, fun w hS => by first | rfl | go_simp⟩) hH ?_
      simp only [Act.put, List.setIfInBounds_toArray, List.set_cons_zero, List.set_cons_succ]
      refine wpAnyH_take (i := 1) (oi := { dst := some 18, op := Go.Op.move (Go.Operand.tmp 0), type := 3, pos := "grove.go:48", after := #[], guard := none }) (v := .int .i64 d) rfl (by kernel_rfl) (by kernel_rfl) (by kernel_rfl) (fun _ _ _ h => h) (Or.inl ⟨by rfl, fun w hS => by first | rfl | go_simp⟩) hH ?_
      simp only [Act.put, List.setIfInBounds_toArray, List.set_cons_zero, List.set_cons_succ]
      refine wpAnyH_take (i := 2) (oi := { dst := some 19, op := Go.Op.move (Go.Operand.tmp 1), type := 25, pos := "grove.go:48", after := #[], guard := none }) (v := .int .u32 e) rfl (by kernel_rfl) (by kernel_rfl) (by kernel_rfl) (fun _ _ _ h => h) (Or.inl ⟨by rfl, fun w hS => by first | rfl | go_simp⟩) hH ?_
      simp only [Act.put, List.setIfInBounds_toArray, List.set_cons_zero, List.set_cons_succ]
      refine wpAnyH_take (i := 3) (oi := { dst := some 20, op := Go.Op.move (Go.Operand.tmp 2), type := 3, pos := "grove.go:48", after := #[], guard := none }) (v := .int .i64 v) rfl (by kernel_rfl) (by kernel_rfl) (by kernel_rfl) (fun _ _ _ h => h) (Or.inl ⟨by rfl, fun w hS => by first | rfl | go_simp⟩) hH ?_
      simp only [Act.put, List.setIfInBounds_toArray, List.set_cons_zero, List.set_cons_succ]
      refine wpAnyH_take (i := 4) (oi := { dst := some 21, op := Go.Op.move (Go.Operand.tmp 3), type := 50, pos := "grove.go:48", after := #[], guard := none }) (v := .slice (some ⟨B, 0, none⟩) n cap) rfl (by kernel_rfl) (by kernel_rfl) (by kernel_rfl) (fun _ _ _ h => h) (Or.inl ⟨by rfl, fun w hS => by first | rfl | go_simp⟩) hH ?_
      simp only [Act.put, List.setIfInBounds_toArray, List.set_cons_zero, List.set_cons_succ]
      refine wpAnyH_take (i := 5) (oi := { dst := some 22, op := Go.Op.move (Go.Operand.tmp 10), type := 3, pos := "grove.go:48", after := #[], guard := none }) (v := .int .i64 c) rfl (by kernel_rfl) (by kernel_rfl) (by kernel_rfl) (fun _ _ _ h => h) (Or.inl ⟨by rfl, fun w hS => by first | rfl | go_simp⟩) hH ?_
      simp only [Act.put, List.setIfInBounds_toArray, List.set_cons_zero, List.set_cons_succ]
      refine wpAnyH_take (i := 6) (oi := { dst := some 23, op := Go.Op.indexAddr 50 (Go.Operand.tmp 21) (Go.Operand.tmp 22), type := 0, pos := "grove.go:48", after := #[{ on := 4, ground := Go.Ground.data }, { on := 5, ground := Go.Ground.data }], guard := none }) (v := .pointer (some ⟨B, c * 16, none⟩)) rfl (by kernel_rfl) (by kernel_rfl) (by kernel_rfl) (fun _ _ _ h => h) (Or.inl ⟨by rfl, fun w hS => exec_idx66 (x := .tmp 21) (y := .tmp 22) (B := B) (n := n) (cap := cap) (j := c) rfl rfl rfl rfl (by omega)⟩) hH ?_
      simp only [Act.put, List.setIfInBounds_toArray, List.set_cons_zero, List.set_cons_succ]
      refine wpAnyH_take (i := 7) (oi := { dst := some 24, op := Go.Op.load 43 (Go.Operand.tmp 23), type := 43, pos := "grove.go:48", after := #[{ on := 6, ground := Go.Ground.data }], guard := none }) (v := dgV x1) rfl (by kernel_rfl) (by kernel_rfl) (by kernel_rfl) (fun _ _ _ h => h) (Or.inl ⟨by rfl, fun w hS => exec_load_at33 (x := .tmp 23) rfl rfl (by rw [HX1.out.1]; exact range_seg hS.out (by have := HP.out; omega)) HX1.out.2.1⟩) hH ?_
      simp only [Act.put, List.setIfInBounds_toArray, List.set_cons_zero, List.set_cons_succ]
      refine wpAnyH_take (i := 8) (oi := { dst := some 25, op := Go.Op.move (Go.Operand.tmp 3), type := 50, pos := "grove.go:48", after := #[], guard := none }) (v := .slice (some ⟨B, 0, none⟩) n cap) rfl (by kernel_rfl) (by kernel_rfl) (by kernel_rfl) (fun _ _ _ h => h) (Or.inl ⟨by rfl, fun w hS => by first | rfl | go_simp⟩) hH ?_
      simp only [Act.put, List.setIfInBounds_toArray, List.set_cons_zero, List.set_cons_succ]
      refine wpAnyH_take (i := 9) (oi := { dst := some 26, op := Go.Op.move (Go.Operand.tmp 10), type := 3, pos := "grove.go:48", after := #[], guard := none }) (v := .int .i64 c) rfl (by kernel_rfl) (by kernel_rfl) (by kernel_rfl) (fun _ _ _ h => h) (Or.inl ⟨by rfl, fun w hS => by first | rfl | go_simp⟩) hH ?_
      simp only [Act.put, List.setIfInBounds_toArray, List.set_cons_zero, List.set_cons_succ]
      refine wpAnyH_take (i := 10) (oi := { dst := some 27, op := Go.Op.binOp Go.BinOp.add 3 (Go.Operand.tmp 26) (Go.Operand.const (Go.Value.int Go.IntKind.i64 1)) 3, type := 3, pos := "grove.go:48", after := #[{ on := 9, ground := Go.Ground.data }], guard := none }) (v := .int .i64 ((c : Int) + 1)) rfl (by kernel_rfl) (by kernel_rfl) (by kernel_rfl) (fun _ _ _ h => h) (Or.inl ⟨by rfl, fun w hS => by have e1 : IntKind.i64.wrap ((c : Int) + 1) = (c : Int) + 1 := IntWalk.i64_in _ (by omega); go_simp⟩) hH ?_
      simp only [Act.put, List.setIfInBounds_toArray, List.set_cons_zero, List.set_cons_succ]
      refine wpAnyH_take (i := 11) (oi := { dst := some 28, op := Go.Op.indexAddr 50 (Go.Operand.tmp 25) (Go.Operand.tmp 27), type := 0, pos := "grove.go:48", after := #[{ on := 8, ground := Go.Ground.data }, { on := 10, ground := Go.Ground.data }], guard := none }) (v := .pointer (some ⟨B, (c + 1) * 16, none⟩)) rfl (by kernel_rfl) (by kernel_rfl) (by kernel_rfl) (fun _ _ _ h => h) (Or.inl ⟨by rfl, fun w hS => exec_idx66 (x := .tmp 25) (y := .tmp 27) (B := B) (n := n) (cap := cap) (j := c + 1) rfl rfl rfl (by omega) (by omega)⟩) hH ?_
      simp only [Act.put, List.setIfInBounds_toArray, List.set_cons_zero, List.set_cons_succ]
      refine wpAnyH_take (i := 12) (oi := { dst := some 29, op := Go.Op.load 43 (Go.Operand.tmp 28), type := 43, pos := "grove.go:48", after := #[{ on := 11, ground := Go.Ground.data }], guard := none }) (v := dgV x2) rfl (by kernel_rfl) (by kernel_rfl) (by kernel_rfl) (fun _ _ _ h => h) (Or.inl ⟨by rfl, fun w hS => exec_load_at33 (x := .tmp 28) rfl rfl (by rw [HX2.out.1]; exact range_seg hS.out (by have := HP.out; omega)) HX2.out.2.1⟩) hH ?_
      simp only [Act.put, List.setIfInBounds_toArray, List.set_cons_zero, List.set_cons_succ]
      refine wpAnyH_ready (rs := [13]) (by kernel_rfl) (by simp) ?_
      refine AllReadyH.cons (o := { dst := some 30, op := Go.Op.call { callee := Go.Callee.value (Go.Operand.func 66), args := #[Go.Operand.tmp 18, Go.Operand.tmp 19, Go.Operand.tmp 20, Go.Operand.tmp 24, Go.Operand.tmp 29], argTypes := #[3, 25, 3, 43, 43] }, type := 43, pos := "grove.go:48", after := #[{ on := 1, ground := Go.Ground.data }, { on := 2, ground := Go.Ground.data }, { on := 3, ground := Go.Ground.data }, { on := 7, ground := Go.Ground.data }, { on := 12, ground := Go.Ground.data }], guard := none }) rfl (fun K hK => ?_) AllReadyH.nil
      go_simp
      refine (above_any d e v x1 x2 wr.drew (HK.out.keep (by rw [← HA.out]; exact G3.out.1.drew)) HE.out HX1.out.2.1 HX1.out.2.2 HX2.out.2.1 HX2.out.2.2).mono ?_
      rintro r w1 ⟨rfl, hb⟩
      have F1 : Kp (w1.ownsRow A 43 16 u9 i xs) := ⟨ownsRow_below (w := wr.drew) G1.out hb⟩
      have F2 : Kp (w1.rangeAt B 0 (kv .u8 p)) := ⟨fun j v hj => (hb.cell (p := ⟨B, 0 + j, none⟩) (by have := HBA.out; have := G3.out.2; show B < wr.heap.size; omega)).trans (G2.out j v hj)⟩
      have F3 : Kp (Below A w w1 ∧ A ≤ w1.heap.size) := ⟨(G3.out.1.drew).trans (hb.mono G3.out.2), Nat.le_trans G3.out.2 hb.size⟩
      clear hb G1 G2 G3
      rw [HXe.out]
      refine hK.out _ _ (F2) (fun hHn => ?_)
      clear hK K hH
      have hH := hHn
      clear hHn
      try simp only [Act.put, List.setIfInBounds_toArray, List.set_cons_zero, List.set_cons_succ]
      refine wpAnyH_ready (rs := [14]) (by kernel_rfl) (by simp) ?_
      refine AllReadyH.cons (o := { dst := some 31, op := Go.Op.buildSlice 50 1 #[(0, Go.Operand.tmp 30)], type := 50, pos := "grove.go:48", after := #[{ on := 13, ground := Go.Ground.data }], guard := none }) rfl (fun K hK => ?_) AllReadyH.nil
      rw [if_pos (by rfl)]
      refine wp_buildSlice_one 50 1 (.tmp 30) rfl (dgV x) rfl _ _ (build66 HXl.out w1) ?_
      refine hK.out _ _ (⟨fun j v hj => ((more (Below.refl w1.heap.size w1) _).cell (p := ⟨B, 0 + j, none⟩) (by have := HBA.out; have := F3.out.2; show B < w1.heap.size; omega)).trans (F2.out j v hj)⟩) (fun hHn => ?_)
      clear hK K hH
      have hH := hHn
      clear hHn
      try simp only [Act.put, List.setIfInBounds_toArray, List.set_cons_zero, List.set_cons_succ]
      refine wpAnyH_ready (rs := [15]) (by kernel_rfl) (by simp) ?_
      refine AllReadyH.cons (o := { dst := some 32, op := Go.Op.call { callee := Go.Callee.builtin Go.Builtin.append, args := #[Go.Operand.tmp 17, Go.Operand.tmp 31], argTypes := #[50, 50] }, type := 50, pos := "grove.go:48", after := #[{ on := 0, ground := Go.Ground.data }, { on := 14, ground := Go.Ground.data }, { on := 13, ground := Go.Ground.chain }], guard := none }) rfl (fun K hK => ?_) AllReadyH.nil
      refine step_append_lies _ rfl (.tmp 17) (.tmp 31) 50 rfl A 43 i0 (.agg (kv .u8 (fill 16 [])).toArray) 16 16 Tryd.underlying50 hi hz0 hz1 hz2 rfl (by decide) u9 i xs rfl (F1.out.alloc _) ⟨w1.heap.size, 0, none⟩ 1 1 (bv x) rfl ?d9 (row_new _ _ _) ?d1 (by decide) ?d3 ?d4 ?d5 (w1.heap.size + 1) ?d6 ?_
      case d9 => rw [bv_len, HXl.out]
      case d1 => exact bv_one _
      case d3 => unfold maxLen; omega
      case d4 => omega
      case d5 => have := F3.out.2; simp; omega
      case d6 => simp
      intro g cap2 w3 ho hg hv hlt
      have H3 : Kp (Below A w w3) := ⟨below_row_grown (F3.out.1.alloc F3.out.2 _) (by have := F3.out.2; simp; omega) (F1.out.alloc _) hg⟩
      have H4 : Kp (A ≤ w3.heap.size) := ⟨Nat.le_trans F3.out.2 (Nat.le_trans (by simp) hg.size)⟩
      have H1 := Kp.mk ho
      have H2 : Kp (w3.rangeAt B 0 (kv .u8 p)) := ⟨fun j v hj => by
        have h9 := H3.out.block B HBA.out
        exact (World.cell?_of_block (w := w) (a := ⟨B, 0 + j, none⟩) h9).trans (HR.out j v hj)⟩
      clear ho hg hv hlt F1 F2 F3
      refine hK.out _ _ (H2) (fun hHn => ?_)
      clear hK K hH
      have hH := hHn
      clear hHn
      try simp only [Act.put, List.setIfInBounds_toArray, List.set_cons_zero, List.set_cons_succ]
      refine wpAnyH_ready (rs := [16]) (by kernel_rfl) (by simp) ?_
      refine AllReadyH.cons (o := { dst := some 9, op := Go.Op.assign (Go.Operand.tmp 32), type := 50, pos := "grove.go:48", after := #[{ on := 15, ground := Go.Ground.data }, { on := 15, ground := Go.Ground.chain }, { on := 0, ground := Go.Ground.phase }, { on := 1, ground := Go.Ground.phase }, { on := 2, ground := Go.Ground.phase }, { on := 3, ground := Go.Ground.phase }, { on := 4, ground := Go.Ground.phase }, { on := 5, ground := Go.Ground.phase }, { on := 6, ground := Go.Ground.phase }, { on := 7, ground := Go.Ground.phase }, { on := 8, ground := Go.Ground.phase }, { on := 9, ground := Go.Ground.phase }, { on := 10, ground := Go.Ground.phase }, { on := 11, ground := Go.Ground.phase }, { on := 12, ground := Go.Ground.phase }, { on := 13, ground := Go.Ground.phase }, { on := 14, ground := Go.Ground.phase }, { on := 15, ground := Go.Ground.phase }], guard := none }) rfl (fun K hK => ?_) AllReadyH.nil
      go_simp
      refine hK.out _ _ (H2) (fun hHn => ?_)
      clear hK K hH
      have hH := hHn
      clear hHn
      try simp only [Act.put, List.setIfInBounds_toArray, List.set_cons_zero, List.set_cons_succ]
      clear hH
      refine wpAnyH_done (by kernel_rfl) ?_ _
      have HCn : Kp (c + 2 = 2 * (i + 1)) := ⟨by have := HC.out; omega⟩
      go_wp2_with fail
      exact ⟨⟨i + 1, c + 2, by omega, by go_num, HCn, ⟨by have := H1.out; rw [HXX.out] at this; exact this⟩, H2, ⟨H3.out, H4.out⟩⟩, by simp [intOf]; omega⟩
    · have hi'' : i = m := by omega
      subst hi''
      have hcl : ¬ (c : Int) < (n : Int) := by have := HC.out; have := HN.out; omega
      have G1' := Kp.mk G1.out
      rw [List.take_of_length_le (by rw [upG_len]; exact Nat.le_refl _)] at G1'
      go_wp2_with fail
      go_ret
      exact ⟨_, rfl, by rw [← HA.out]; exact G1'.out, by rw [← HA.out]; exact G3.out.1⟩
end Go.Proofs.YtibbinenhmiclaaDoor

namespace Go.Proofs.YtibbinenhmiclaaDoor
open Go.RowKit

theorem elsL_seg (m : SpM) (q : Int) {r : Nat} : ∀ {k : Nat}, r < k → ((elsL m q k).drop (r * 16)).take 16 = elR m q r
  | 0, h => absurd h (by omega)
  | k + 1, h => by
    rw [elsL_succ]
    by_cases hk : r < k
    · rw [List.drop_append_of_le_length (by rw [elsL_len]; omega), List.take_append_of_le_length (by rw [List.length_drop, elsL_len]; omega)]
      exact elsL_seg m q hk
    · obtain rfl : r = k := by omega
      rw [List.drop_append, List.drop_eq_nil_of_le (by rw [elsL_len]; omega), List.nil_append, elsL_len, Nat.sub_self, List.drop_zero]
      exact List.take_of_length_le (by rw [elR_len]; omega)
theorem own_rangeS {w : World} {base m : Nat} {v : Value} {p : List Int} (h : w.ownsRow base 43 16 v m (bv p)) (h0 : 0 < m) : ∃ C c, v = .slice (some ⟨C, 0, none⟩) m c ∧ base ≤ C ∧ C < w.heap.size ∧ w.rangeAt C 0 (kv .u8 p) := by
  rcases h.2 with ⟨_, hz⟩ | ⟨g, cap, cur, rfl, hb, hg, _, _, _, ht⟩
  · omega
  · refine ⟨g, cap, rfl, hb, (Array.getElem?_eq_some_iff.1 hg).1, fun j v hj => ?_⟩
    rw [cell_of_row w g (0 + j) cur 43 (0, 0) hg, Nat.zero_add, ← Array.getElem?_toList]
    have hj2 : (bv p)[j]? = some v := hj
    rw [← ht, List.getElem?_take] at hj2
    split at hj2
    · exact hj2
    · cases hj2
theorem own_segS {w : World} {B k : Nat} {v : Value} {m : SpM} {q : Int} (h : w.ownsRow B 43 16 v k (bv (elsL m q k))) {r : Nat} (hr : r < k) : ∃ g cap, v = .slice (some ⟨g, 0, none⟩) k cap ∧ w.rangeAt g (r * 16) (kv .u8 (elR m q r)) := by
  obtain ⟨g, cap, e, _, _, hg⟩ := own_rangeS h (by omega)
  refine ⟨g, cap, e, ?_⟩
  have h1 := range_seg (i := r) hg (by rw [elsL_len]; exact Nat.mul_le_mul_right 16 hr)
  have h2 : segL (elsL m q k) r = elR m q r := elsL_seg m q hr
  rw [h2] at h1
  exact h1
theorem info43R (m : SpM) (q : Int) (r : Nat) : (Tryd.prog.info? 43).map (·.size) = some (kv .u8 (elR m q r)).length := by rw [List.length_map, elR_len]; kernel_rfl
/-- Another block turns: a spring stays. -/
theorem SpIs.turn {w w' : World} {B S C b : Nat} {m : SpM} {n : Nat} {f : Nat → Option Value} {g : GS} {mk : Int} {o : Obj} (h : SpIs w B S C m n f g mk) (hT : Turn b o w w') (hS : b ≠ S) (hC : b ≠ C) (hv : ∀ i v k, i < n → f i = some v → v.ownBlock = some k → k ≠ b) : SpIs w' B S C m n f g mk :=
  ⟨hT.keep h.s (Ne.symm hS), hT.keep h.c (Ne.symm hC), h.bs, h.bc, fun i v hi hf => by
    refine (h.el i v hi hf).kept hT.grown ?_
    cases hk : v.ownBlock with
    | none => exact .inl rfl
    | some k =>
      refine .inr fun e => ?_
      exact hv i v k hi hf hk (by simpa using e)⟩
theorem Off.new {B S C b : Nat} {o : Obj} {w W W' : World} (h : Off B S C w W) (hT : Turn b o W W') (hb : w.heap.size ≤ b) (hB : B ≤ w.heap.size) : Off B S C w W' :=
  ⟨h.b.trans (hT.below (by omega) (Nat.le_trans hB h.b.size)), fun k hk h1 h2 => (hT.other k (Nat.lt_of_lt_of_le hk h.b.size) (by omega)).trans (h.o k hk h1 h2)⟩
set_option maxRecDepth 100000 in
set_option maxHeartbeats 4000000 in
theorem element_ok (m : SpM) (B S C n : Nat) (f : Nat → Option Value) (g : GS) (mk : Int) (q r : Nat) (w : World) (hk : KonIs w) (ho : SpOk m) (h : SpIs w B S C m n f g mk) (hb0 : 0 < B) (hbw : B ≤ w.heap.size) (hq : q < n) (hn : n ≤ 64) (hmk : 0 ≤ mk ∧ mk ≤ 1000) (hr : (r : Int) ≤ m.st) :
    Calls Tryd.prog 18 #[.pointer (some ⟨S, 0, none⟩), .int .i64 q, .int .i64 r] w fun e w' => ∃ v f' mk', e = .returned (.tuple #[dgV (elR m q r), .int .i64 0]) ∧ SpIs w' B S C m n f' g mk' ∧ f' q = some v ∧
      (f q ≠ none → f' = f ∧ mk' = mk) ∧ (f q = none → f' = updF f q v ∧ mk' = mk + 1) ∧ Off B S C w w' ∧ KonIs w' := by
  obtain ⟨A, hA⟩ : ∃ A, A = w.heap.size := ⟨_, rfl⟩
  have HA := Kp.mk hA
  have H0 : Kp (Row (w.alloc z50) A 43 .u8 zeroS ∧ SpIs (w.alloc z50) B S C m n f g mk ∧ Below A w (w.alloc z50) ∧ KonIs (w.alloc z50)) := ⟨Blk.newAt _ hA, h.keep (more (Below.refl _ _) _), by rw [hA]; exact more (Below.refl _ _) _, hk.keep (more (Below.refl _ _) _)⟩
  have HQ := Kp.mk (And.intro hq hn)
  have HRr := Kp.mk hr
  have HN : Kp (∀ i v k, i < n → f i = some v → v.ownBlock = some k → k ≠ A) := ⟨fun i v k hi hf hk => by have := ((h.el i v hi hf).lt k hk).2; omega⟩
  have HSA : Kp (A ≠ S ∧ A ≠ C) := ⟨by have := h.s.lt; omega, by have := h.c.lt; omega⟩
  have HMK := Kp.mk hmk
  have HB := Kp.mk (And.intro hb0 hbw)
  have HO := Kp.mk ho
  clear h hb0 hbw ho hk hq hn hmk hr
  go_enter Tryd.func18, Tryd.ntmps18
  go_wp2_with fail
  rw [← hA]
  clear hA
  refine calls_world (fun W => Row W A 43 .u8 zeroS ∧ SpIs W B S C m n f g mk ∧ Below A w W ∧ KonIs W) H0.out ?_
  rintro w1 ⟨h1, h2, h3, h4⟩
  have HR := Kp.mk h1
  have H1 := Kp.mk h2
  have HBl := Kp.mk h3
  have HK := Kp.mk h4
  clear h1 h2 h3 h4 H0
  refine (hasSp_any m B S C n f g mk q _ HO.out H1.out).mono ?_
  rintro e w2 ⟨rfl, rfl⟩
  have q1 : w2.cell? ⟨S, 1, none⟩ = some (.int .i64 m.st) := (H1.out.s.cell 1).trans (by rw [List.getElem?_toArray]; rfl)
  have hx1 : decide ((r : Int) < 0) = false := by simp
  have hx2 : decide (m.st < (r : Int)) = false := by have := HRr.out; simp; omega
  have hd : decide (0 ≤ (q : Int) ∧ (q : Int) < n) = true := decide_eq_true (by have := HQ.out.1; omega)
  rw [hd]
  clear hd
  go_wp2_with fail
  refine (elements_any m B S C n f g mk q w2 HK.out HO.out H1.out HB.out.1 (by have := HB.out.2; have := HBl.out.size; rw [← HA.out] at *; omega) HQ.out.1 HQ.out.2 HMK.out).mono ?_
  rintro e w3 ⟨a, c, f', mk', rfl, h1, h2, h3, h4, h5, h6⟩
  clear q1 hx1 hx2
  have HE := Kp.mk (own_segS (h1.el q _ HQ.out.1 h2) (r := r) (by have := HRr.out; have := HO.out.s; omega))
  obtain ⟨G, cap, e9, hG⟩ := HE.out
  simp only [Value.slice.injEq, true_and] at e9
  obtain ⟨rfl, rfl⟩ := e9
  have HG := Kp.mk hG
  have H1 := Kp.mk h1
  have H26 := Kp.mk (And.intro h2 (And.intro h3 (And.intro h4 h6)))
  have H5 := Kp.mk h5
  have HRi := Kp.mk (show r < m.st.toNat + 1 by have := HRr.out; have := HO.out.s; omega)
  have hRi := HRi.out
  clear h1 h2 h3 h4 h5 h6 hG HE
  have HR3 : Kp (Row w3 A 43 .u8 zeroS) := ⟨H5.out.blk HR.out HSA.out.1 HSA.out.2⟩
  have HF := Kp.mk (HR3.out.setRow (elR m q r))
  have HZ := Kp.mk (elR_len m q r)
  have hT := Turn.ofRowS HR3.out (kv .u8 (elR m q r)).toArray
  have HO9 : Kp (Off B S C w (w3.setRow A (kv .u8 (elR m q r)).toArray)) := ⟨((Off.of HBl.out HA.out (by have := HB.out.2; rw [HA.out]; omega)).trans H5.out).new hT (by rw [HA.out]; exact Nat.le_refl _) HB.out.2⟩
  have HK9 : Kp (KonIs (w3.setRow A (kv .u8 (elR m q r)).toArray)) := ⟨H26.out.2.2.2.turn hT (by have := HB.out; rw [HA.out]; omega)⟩
  have HS9 : Kp (SpIs (w3.setRow A (kv .u8 (elR m q r)).toArray) B S C m n f' g mk') := ⟨H1.out.turn hT HSA.out.1 HSA.out.2 (fun i v k hi hf hk => by
    by_cases hq : f q = none
    · obtain ⟨e1, -, h3⟩ := H26.out.2.2.1 hq
      rw [e1] at hf
      unfold updF at hf
      by_cases hi2 : i = q
      · rw [if_pos hi2] at hf
        obtain rfl := Option.some.inj hf
        have h9 := h3 k hk
        have := HBl.out.size
        have h8 := HR.out.lt
        omega
      · rw [if_neg hi2] at hf
        exact HN.out i v k hi hf hk
    · rw [(H26.out.2.1 hq).1] at hf
      exact HN.out i v k hi hf hk)⟩
  clear hT
  obtain ⟨x, hx⟩ : ∃ x, x = elR m q r := ⟨_, rfl⟩
  rw [← hx] at HG HF HZ HO9 HK9 HS9
  have HX := Kp.mk hx
  have HI : Kp ((Tryd.prog.info? 43).map (·.size) = some (kv .u8 x).length) := ⟨by rw [hx]; exact info43R m q r⟩
  clear hx
  go_wp2_with (first
    | (refine wpList_load_mid rfl 43 (.tmp 33) rfl G (r * 16) rfl (kv .u8 x) _ HG.out Tryd.underlying43 rfl HI.out ?_)
    | (refine wpList_store_row rfl 43 (.tmp 6) (.tmp 34) rfl A (kv .u8 x).toArray rfl rfl 43 _ HR3.out (cells50 HZ.out) (size50 HZ.out) (kv_all _ _) ?_))
  refine bodyPost_ret (v := .tuple #[dgV x, .int .i64 0]) ?_ rfl ⟨_, f', mk', by rw [HX.out], HS9.out, H26.out.1, H26.out.2.1, fun h => ⟨(H26.out.2.2.1 h).1, (H26.out.2.2.1 h).2.1⟩, HO9.out, HK9.out⟩
  exact results_row_tmp rfl _ _ A 43 (kv .u8 x).toArray (0, 0) _ (.int .i64 0) rfl rfl HF.out Tryd.underlying43 rfl (cells50 HZ.out)
end Go.Proofs.YtibbinenhmiclaaDoor

namespace Go.Proofs.YtibbinenhmiclaaDoor
open Go.RowKit

theorem HoldsS.none (w : World) : HoldsS w (.slice none 0 0) 0 [] := ⟨Option.none, 0, rfl, rfl, by unfold maxLen; omega, Bytes.nil, fun h => by omega⟩
theorem HoldsS.row {w : World} {C n : Nat} {t : TypeId} {l : List Int} (h : Row w C t .u8 l) (hl : l.length = n * 16) (hb : Bytes l) (hn : n ≤ 65535) : HoldsS w (.slice (some ⟨C, 0, Option.none⟩) n n) n l :=
  ⟨_, _, rfl, hl, by unfold maxLen; omega, hb, fun _ => ⟨C, 0, rfl, h.lt, fun j hj => by rw [Nat.zero_add]; exact h.cell (by omega)⟩⟩
/-- What a slice shows was made between two worlds. -/
def FreshS (w w' : World) (v : Value) : Prop := ∀ x n c, v = .slice (some x) n c → w.heap.size ≤ x.block ∧ x.block < w'.heap.size
theorem FreshS.none (w w' : World) : FreshS w w' (.slice Option.none 0 0) := fun x n c e => by cases e
theorem FreshS.some {w w' : World} {C o n c : Nat} (h1 : w.heap.size ≤ C) (h2 : C < w'.heap.size) : FreshS w w' (.slice (Option.some ⟨C, o, Option.none⟩) n c) := fun x n' c' e => by
  simp only [Value.slice.injEq, Option.some.injEq] at e
  rw [← e.1]
  exact ⟨h1, h2⟩
/-- Rows of sums, to be read; all of it lies below M. -/
def TreeB (w : World) (M : Nat) (v : Value) (ps : List (List Int)) : Prop :=
  ∃ R c, v = .slice (some ⟨R, 0, none⟩) ps.length c ∧ R < M ∧ R < w.heap.size ∧ ∀ i, i < ps.length → ∃ B c', w.cell? ⟨R, i, none⟩ = some (.slice (some ⟨B, 0, none⟩) ((ps.getD i []).length / 16) c') ∧ Row w B 43 .u8 (ps.getD i []) ∧ B < M
theorem TreeAt.b {w : World} {v : Value} {ps : List (List Int)} (h : TreeAt w v ps) : TreeB w w.heap.size v ps := by
  obtain ⟨R, c, e, hR, h3⟩ := h
  refine ⟨R, c, e, hR, hR, fun i hi => ?_⟩
  obtain ⟨B, c', e1, hr⟩ := h3 i hi
  exact ⟨B, c', e1, hr, hr.lt⟩
theorem TreeB.upto {w w' : World} {M : Nat} {v : Value} {ps : List (List Int)} (h : TreeB w M v ps) (hb : Below M w w') : TreeB w' M v ps := by
  obtain ⟨R, c, e, hR, hR2, h3⟩ := h
  refine ⟨R, c, e, hR, Nat.lt_of_lt_of_le hR2 hb.size, fun i hi => ?_⟩
  obtain ⟨B, c', e1, hr, hB⟩ := h3 i hi
  exact ⟨B, c', (World.cell?_of_block (w := w) (a := ⟨R, i, none⟩) (hb.block R hR)).trans e1, (hb.block B hB).trans hr, hB⟩
theorem TreeB.drew {w : World} {M : Nat} {v : Value} {ps : List (List Int)} (h : TreeB w M v ps) : TreeB w.drew M v ps := h
theorem TreeB.mono {w : World} {M M' : Nat} {v : Value} {ps : List (List Int)} (h : TreeB w M v ps) (hM : M ≤ M') : TreeB w M' v ps := by
  obtain ⟨R, c, e, hR, hR2, h3⟩ := h
  refine ⟨R, c, e, by omega, hR2, fun i hi => ?_⟩
  obtain ⟨B, c', e1, hr, hB⟩ := h3 i hi
  exact ⟨B, c', e1, hr, by omega⟩
/-- The place beside. -/
def besI (j l : Nat) : Nat := if j / 2 ^ l % 2 = 1 then j / 2 ^ l - 1 else j / 2 ^ l + 1
theorem xor_bits (j l : Nat) (hj : j < 8) (hl : l < 3) : bits .xor .i64 ((j : Int) / 2 ^ l) 1 = (besI j l : Nat) := by
  have h1 : j = 0 ∨ j = 1 ∨ j = 2 ∨ j = 3 ∨ j = 4 ∨ j = 5 ∨ j = 6 ∨ j = 7 := by omega
  have h2 : l = 0 ∨ l = 1 ∨ l = 2 := by omega
  rcases h1 with rfl | rfl | rfl | rfl | rfl | rfl | rfl | rfl <;> rcases h2 with rfl | rfl | rfl <;> first | rfl | decide
theorem besI_lt {j l k : Nat} (hj : j < 2 ^ k) (hl : l < k) : besI j l < 2 ^ (k - l) := by
  have h2 : 2 ^ k = 2 ^ (k - l) * 2 ^ l := by rw [← Nat.pow_add, Nat.sub_add_cancel (by omega)]
  have h1 : j / 2 ^ l < 2 ^ (k - l) := by rw [Nat.div_lt_iff_lt_mul (Nat.pow_pos (by decide)), ← h2]; exact hj
  have h3 : 2 ^ (k - l) = 2 * 2 ^ (k - l - 1) := by
    obtain ⟨q, hq⟩ : ∃ q, k - l = q + 1 := ⟨k - l - 1, by omega⟩
    rw [hq, Nat.add_sub_cancel, Nat.pow_succ, Nat.mul_comm]
  unfold besI
  generalize j / 2 ^ l = a at *
  generalize 2 ^ (k - l - 1) = b at *
  generalize 2 ^ (k - l) = c at *
  clear h2
  split <;> omega
theorem idx137 (R n cap j : Nat) (hj : j < n) (w : World) : (Instr.indexAt 106 (.slice (some ⟨R, 0, none⟩) n cap) (.int .i64 j)).run Tryd.prog w = .ok (.pointer (some ⟨R, j, none⟩)) w := by
  go_simp
theorem exec_idx137 {o : Oper} {a : Act} {w : World} {x y : Operand} {R n cap j : Nat} {q : Int} (ho : o.op = .indexAddr 106 x y) (hx : a.eval x = .slice (some ⟨R, 0, none⟩) n cap) (hy : a.eval y = .int .i64 q) (hq : q = (j : Nat)) (hj : j < n) :
    (execOp a.eval o).run Tryd.prog w = .ok (.value (.pointer (some ⟨R, j, none⟩))) w := by
  unfold execOp
  subst hq
  simp only [ho, hx, hy, Sem.run_bind, idx137 R n cap j hj w, Result.andThen_ok, Sem.run_pure]
/-- The way from a node: what stands beside, level by level. -/
def wayL (d e s r : Int) (x : List Int) (k j : Nat) : List Int := rowsL (fun l => nodeS d e s r x l (besI j l : Nat)) k
theorem wayL_len (d e s r : Int) (x : List Int) (k j : Nat) : (wayL d e s r x k j).length = k * 16 := rowsL_len (fun _ => nodeS_len _ _ _ _ _ _ _) _
theorem wayL_bytes (d e s r : Int) (x : List Int) (k j : Nat) : Bytes (wayL d e s r x k j) := rowsL_bytes (fun _ => nodeS_bytes _ _ _ _ _ _ _) _
/-- What comes of Show. -/
def showOk (r m i : Int) : Bool := rungB r && nodeB i m
def showS (d e s r : Int) (x : List Int) (m i : Int) : List Int := if showOk r m i then nodeS d e s r x 0 i else fill 16 []
def showF (r m i : Int) : Int := if showOk r m i then 0 else 1
def showN (r m i : Int) : Nat := if showOk r m i then (lev m).toNat else 0
def showW (d e s r : Int) (x : List Int) (m i : Int) : List Int := if showOk r m i then wayL d e s r x (lev m).toNat i.toNat else []
theorem showS_len (d e s r : Int) (x : List Int) (m i : Int) : (showS d e s r x m i).length = 16 := by
  unfold showS
  split
  · exact nodeS_len _ _ _ _ _ _ _
  · rfl
theorem showS_bytes (d e s r : Int) (x : List Int) (m i : Int) : Bytes (showS d e s r x m i) := by
  unfold showS
  split
  · exact nodeS_bytes _ _ _ _ _ _ _
  · exact fill_bytes (fun x hx => by simp at hx)
theorem results_row_tmp2 {P : Program} {fn : Func} {p q r : Tmp} {ty : TypeId} (h : fn.results = #[.cell p ty, .tmp q, .tmp r]) (tmps : Array Value) (w : World) (g : Nat) (t : TypeId) (cs : Array Value) (fr : Nat × Nat) (d : TypeDesc) (u v : Value)
    (hp : tmps.getD p undef = .pointer (some ⟨g, 0, none⟩)) (hq : tmps.getD q undef = u) (hr : tmps.getD r undef = v) (hg : w.heap[g]? = some (.cells cs t fr))
    (hu : P.underlying ty = some d) (hd : (match d with | .struct _ | .array _ _ => true | _ => false) = true) (hi : (P.info? ty).map (·.size) = some cs.size) :
    (results fn tmps).run P w = .ok (.tuple #[.agg cs, u, v]) w := by
  have hp' : tmps[p]?.getD undef = .pointer (some ⟨g, 0, none⟩) := by simpa using hp
  have hq' : tmps[q]?.getD undef = u := by simpa using hq
  have hr' : tmps[r]?.getD undef = v := by simpa using hr
  simp [results, h, hp', hq', hr', asAddr, run_loadVar_row w g t ty cs fr d hg hu hd hi]
theorem results_show {w : World} {g : Nat} {z : List Int} {q : Int} {v : Value} {tmps : Array Value} (h8 : tmps.getD 10 undef = .pointer (some ⟨g, 0, none⟩)) (h9 : tmps.getD 11 undef = v) (h10 : tmps.getD 12 undef = .int .i64 q) (hr : Row w g 43 .u8 z) (hz : z.length = 16) :
    (results Tryd.f60 tmps).run Tryd.prog w = .ok (.tuple #[dgV z, v, .int .i64 q]) w :=
  results_row_tmp2 rfl _ _ g 43 _ (0, 0) _ _ _ h8 h9 h10 hr Tryd.underlying43 rfl (cells50 hz)
set_option maxRecDepth 100000 in
set_option maxHeartbeats 2000000 in
theorem show_any (d e s r : Int) (x : List Int) (m i : Int) (w : World) (hk : KonIs w) (he : 0 ≤ e ∧ e < 4294967296) (hs : 0 ≤ s ∧ s < 4294967296) (hx : x.length = 16) (hxb : Bytes x) :
    Calls Tryd.prog 60 #[plV d e s, .int .i64 r, dgV x, .int .i64 m, .int .i64 i] w fun q w' => ∃ v, q = .returned (.tuple #[dgV (showS d e s r x m i), v, .int .i64 (showF r m i)]) ∧ HoldsS w' v (showN r m i) (showW d e s r x m i) ∧ FreshS w w' v ∧ Below w.heap.size w w' := by
  have HK := Kp.mk hk
  have HE := Kp.mk he
  have HS := Kp.mk hs
  have HX := Kp.mk hx
  have HXB := Kp.mk hxb
  have HC := Kp.mk (cells50 hx)
  clear hk he hs hx hxb
  obtain ⟨A, hA⟩ : ∃ A, A = w.heap.size := ⟨_, rfl⟩
  have HA := Kp.mk hA
  go_enter Tryd.func60, Tryd.ntmps60
  go_wp2_with fail
  rw [← hA]
  refine calls_world (fun W => Blk W A (.cells #[.int .i64 d, .int .u32 e, .int .u32 s] 118) ∧ Row W (A + 1) 43 .u8 x ∧ Row W (A + 1 + 1) 43 .u8 (fill 16 []) ∧ Below A w W) ⟨Blk.old (Blk.old (Blk.newAt _ hA) _) _, Blk.old (Blk.newAt _ (by simp [hA])) _, Blk.newAt _ (by rw [hA]; simp), by rw [hA]; exact more (more (more (Below.refl _ _) _) _) _⟩ ?_
  clear hA
  rintro W ⟨g1, g2, g3, g4⟩
  have G1 := Kp.mk g1
  have G2 := Kp.mk g2
  have G3 := Kp.mk g3
  have G4 := Kp.mk g4
  clear g1 g2 g3 g4
  have HZ0 : Kp ((fill 16 [] : List Int).length = 16) := ⟨rfl⟩
  have HF0 := Kp.mk (G3.out.setRow (fill 16 []))
  have HB0 := Kp.mk (Below.row G4.out (g := A + 1 + 1) (by omega) (kv .u8 (fill 16 [])).toArray)
  refine (isRung_any r W).mono ?_
  rintro q w1 ⟨rfl, e1⟩
  rw [e1]
  clear e1 w1
  cases hr : rungB r with
  | false =>
    have HU : Kp (showS d e s r x m i = fill 16 [] ∧ showF r m i = 1 ∧ showN r m i = 0 ∧ showW d e s r x m i = []) := ⟨by simp [showS, showF, showN, showW, showOk, hr]⟩
    clear hr
    go_wp2_with (refine wpList_store_row rfl 43 (.tmp 10) (.tmp 25) rfl (A + 1 + 1) (kv .u8 (fill 16 [])).toArray rfl rfl 43 _ G3.out (cells50 HZ0.out) (size50 HZ0.out) (kv_all _ _) ?_)
    refine bodyPost_ret (results_show (v := .slice none 0 0) rfl rfl rfl HF0.out HZ0.out) rfl ⟨_, by rw [HU.out.1, HU.out.2.1], ?_, FreshS.none _ _, by rw [← HA.out]; exact HB0.out⟩
    rw [HU.out.2.2.1, HU.out.2.2.2]
    exact HoldsS.none _
  | true =>
    go_wp2_with fail
    refine (isNode_any i m W).mono ?_
    rintro q w1 ⟨rfl, e1⟩
    rw [e1]
    clear e1 w1
    cases hn : nodeB i m with
    | false =>
      have HU : Kp (showS d e s r x m i = fill 16 [] ∧ showF r m i = 1 ∧ showN r m i = 0 ∧ showW d e s r x m i = []) := ⟨by simp [showS, showF, showN, showW, showOk, hr, hn]⟩
      clear hr hn
      go_wp2_with (refine wpList_store_row rfl 43 (.tmp 10) (.tmp 25) rfl (A + 1 + 1) (kv .u8 (fill 16 [])).toArray rfl rfl 43 _ G3.out (cells50 HZ0.out) (size50 HZ0.out) (kv_all _ _) ?_)
      refine bodyPost_ret (results_show (v := .slice none 0 0) rfl rfl rfl HF0.out HZ0.out) rfl ⟨_, by rw [HU.out.1, HU.out.2.1], ?_, FreshS.none _ _, by rw [← HA.out]; exact HB0.out⟩
      rw [HU.out.2.2.1, HU.out.2.2.2]
      exact HoldsS.none _
    | true =>
      have h3 : 0 ≤ lev m ∧ 0 ≤ i ∧ i < m := by
        have := hn
        simp [nodeB] at this
        exact ⟨this.1.1, this.1.2, this.2⟩
      obtain ⟨k, hk⟩ : ∃ k : Nat, lev m = k := ⟨(lev m).toNat, by omega⟩
      obtain ⟨j, rfl⟩ : ∃ j : Nat, i = j := ⟨i.toNat, by omega⟩
      have hm := lev_inv hk
      have hk3 := hm.2
      have hj : j < 2 ^ k := by omega
      have HJ := Kp.mk hj
      have hj8 : j < 8 := by rcases (show k = 0 ∨ k = 1 ∨ k = 2 ∨ k = 3 by omega) with rfl | rfl | rfl | rfl <;> simp at hj <;> omega
      have HU : Kp (showS d e s r x m j = nodeS d e s r x 0 j ∧ showF r m j = 0 ∧ showN r m j = k ∧ showW d e s r x m j = wayL d e s r x k j) := ⟨by
        have h2 : (lev m).toNat = k := by omega
        simp [showS, showF, showN, showW, showOk, hr, hn, h2]⟩
      have HL := Kp.mk hk
      have HT : Kp (∀ w1, Below A w w1 → Calls Tryd.prog 71 #[plV d e s, .int .i64 r, dgV x, .int .i64 m] w1 fun q w' => ∃ v, q = .returned v ∧ TreeAt w' v (lvls d e s r x k (k + 1)) ∧ Below w1.heap.size w1 w') := ⟨fun w1 hb => by
        rw [hm.1]
        exact tree_any d e s r x k (2 ^ k) w1 (HK.out.keep (by rw [← HA.out]; exact hb)) HE.out HS.out HX.out HXB.out hk3 rfl⟩
      clear hr hn h3 hk hm hj HF0 HB0
      go_wp2_with first
        | (refine wpList_load_row rfl 118 (.tmp 5) rfl A rfl 118 _ (0, 0) _ G1.out Tryd.underlying118 rfl (cells51 d e s) ?_)
        | (refine wpList_load_row rfl 43 (.tmp 7) rfl (A + 1) rfl 43 _ (0, 0) _ G2.out Tryd.underlying43 rfl HC.out ?_)
      refine (HT.out W G4.out).mono ?_
      rintro q w1 ⟨v, rfl, h1, h2⟩
      have F1 := Kp.mk h1.b
      have F3 := Kp.mk (G3.out.keep h2)
      have F4 : Kp (Below A w w1) := ⟨G4.out.trans (h2.mono (by have := G3.out.lt; omega))⟩
      clear h1 h2 HT G1 G2 G3 G4
      go_wp2_with fail
      refine (levels_any m w1).mono ?_
      rintro q w2 ⟨rfl, e1⟩
      rw [e1, HL.out]
      clear e1 w2
      have hmk := make66 k (by omega)
      go_wp2_with fail
      clear hmk
      obtain ⟨C, hC⟩ : ∃ C, C = w1.heap.size := ⟨_, rfl⟩
      refine calls_world (fun W => TreeB W C v (lvls d e s r x k (k + 1)) ∧ Row W (A + 1 + 1) 43 .u8 (fill 16 []) ∧ Row W C 43 .u8 (List.replicate (k * 16) 0) ∧ Below A w W) ⟨?_, Row.alloc F3.out _, ?_, F4.out.alloc (by have := F3.out.lt; omega) _⟩ ?_
      · rw [hC]; exact F1.out.upto (more (Below.refl _ _) _)
      · have h := Blk.newAt (w := w1) (b := C) (.cells (kv .u8 (List.replicate (k * 16) 0)).toArray 43) hC
        simpa [Row] using h
      have HCA : Kp (A + 1 + 1 < C) := ⟨by rw [hC]; exact F3.out.lt⟩
      rw [← hC]
      clear hC F1 F3 F4
      rintro W2 ⟨g1, g3, g5, g4⟩
      have G1 := Kp.mk g1
      have G3 := Kp.mk g3
      have G4 := Kp.mk g4
      have G5 := Kp.mk g5
      clear g1 g3 g4 g5
      refine (levels_any m W2).mono ?_
      rintro q w2 ⟨rfl, e1⟩
      rw [e1, HL.out]
      clear e1 w2
      obtain ⟨q, hq⟩ : ∃ q, q = wayL d e s r x k j := ⟨_, rfl⟩
      have HQ : Kp (q.length = k * 16 ∧ ∀ l, l < k → (q.drop (l * 16)).take 16 = nodeS d e s r x l (besI j l : Nat)) := ⟨by rw [hq]; exact ⟨wayL_len _ _ _ _ _ _ _, fun l hl => rowsL_mid (f := fun l => nodeS d e s r x l (besI j l : Nat)) (fun _ => nodeS_len _ _ _ _ _ _ _) _ l hl⟩⟩
      have HQ9 := Kp.mk hq
      clear hq
      obtain ⟨R, cv, rfl⟩ : ∃ R cv, v = .slice (some ⟨R, 0, none⟩) (k + 1) cv := by
        obtain ⟨R, cv, e, _⟩ := G1.out
        exact ⟨R, cv, by rw [e, lvls_len]⟩
      have HTG : Kp (∀ W', TreeB W' C (.slice (some ⟨R, 0, none⟩) (k + 1) cv) (lvls d e s r x k (k + 1)) → ∀ l, l < k + 1 → ∃ B c, (W'.cell? ⟨R, l, none⟩ = some (.slice (some ⟨B, 0, none⟩) (2 ^ (k - l)) c) ∧ R < W'.heap.size) ∧ Row W' B 43 .u8 (lvlN d e s r x k l)) := ⟨fun W' h l hl => by
        obtain ⟨R', c', e, _, hR, h3⟩ := h
        simp only [Value.slice.injEq, Option.some.injEq, Addr.mk.injEq, and_true] at e
        obtain ⟨rfl, -⟩ := e
        obtain ⟨B, c, h4, h5, _⟩ := h3 l (by rw [lvls_len]; exact hl)
        rw [lvls_get _ _ _ _ _ _ _ _ hl] at h4 h5
        rw [lvlN_len, Nat.mul_div_cancel _ (by decide)] at h4
        exact ⟨B, c, ⟨h4, hR⟩, h5⟩⟩
      go_wp2_with fail
      go_loopw [36] (fun c wr => ∃ l : Nat, l ≤ k ∧ c = .int .i64 l ∧ TreeB wr C (.slice (some ⟨R, 0, none⟩) (k + 1) cv) (lvls d e s r x k (k + 1)) ∧ Row wr (A + 1 + 1) 43 .u8 (fill 16 []) ∧ Row wr C 43 .u8 (sumsRow q k l) ∧ Below A w wr) (fun c _ => k - (intOf c).toNat)
      case atStart => exact ⟨0, by omega, rfl, G1.out, G3.out, G5.out.as sumsRow_none.symm, G4.out⟩
      case round =>
        obtain ⟨l, hl, rfl, g1, g3, g5, g4⟩ := hrel
        clear G1 G3 G4 G5
        have G1 := Kp.mk g1
        have G3 := Kp.mk g3
        have G4 := Kp.mk g4
        have G5 := Kp.mk g5
        clear g1 g3 g4 g5
        by_cases hlt : l < k
        · obtain ⟨B, c, hD0, hD1⟩ := HTG.out wr G1.out l (by omega)
          obtain ⟨z, hz⟩ : ∃ z, z = nodeS d e s r x l (besI j l : Nat) := ⟨_, rfl⟩
          obtain ⟨n, hn⟩ : ∃ n, n = 2 ^ (k - l) := ⟨_, rfl⟩
          have hlt3 := besI_lt HJ.out hlt
          obtain ⟨p, hp⟩ : ∃ p, p = lvlN d e s r x k l := ⟨_, rfl⟩
          have HZ : Kp (z.length = 16 ∧ (p.drop (besI j l * 16)).take 16 = z ∧ (q.drop (l * 16)).take 16 = z) := ⟨by rw [hz, hp]; exact ⟨nodeS_len _ _ _ _ _ _ _, lvlN_seg _ _ _ _ _ _ _ _ hlt3, HQ.out.2 l hlt⟩⟩
          have HM : Kp (besI j l * 16 + 16 ≤ p.length) := ⟨by rw [hp, lvlN_len]; omega⟩
          rw [← hn] at hD0 hlt3
          rw [← hp] at hD1
          have HN := Kp.mk hlt3
          have D0 := Kp.mk hD0
          have D1 := Kp.mk hD1
          clear hD0 hD1 hz hn hp hlt3
          go_wp2_with fail
          refine wp_region_pred (fun w' => (w'.cell? ⟨R, l, none⟩ = some (.slice (some ⟨B, 0, none⟩) n c) ∧ R < w'.heap.size) ∧ Row w' B 43 .u8 p ∧ Row w' C 43 .u8 (sumsRow q k l) ∧ TreeB w' C (.slice (some ⟨R, 0, none⟩) (k + 1) cv) (lvls d e s r x k (k + 1)) ∧ Row w' (A + 1 + 1) 43 .u8 (fill 16 []) ∧ Below A w w') [0, 1, 2, 3, 4, 5, 6, 7, 8, 9, 10, 11, 12] [13]
            (fun ι w' v => match ι with
              | 0 => v = .slice (some ⟨C, 0, none⟩) k k
              | 1 | 3 | 7 => v = .int .i64 l
              | 2 => v = .slice (some ⟨R, 0, none⟩) (k + 1) cv
              | 4 => v = .pointer (some ⟨R, l, none⟩)
              | 5 => v = .slice (some ⟨B, 0, none⟩) n c
              | 6 => v = .int .i64 j
              | 8 => v = .int .i64 (j / 2 ^ l : Nat)
              | 9 => v = .int .i64 (besI j l : Nat)
              | 10 => v = .pointer (some ⟨B, besI j l * 16, none⟩)
              | 11 => v = dgV z
              | 12 => v = .pointer (some ⟨C, l * 16, none⟩)
              | _ => v = .bool true)
            [[], [], [], [], [(2, some 41), (3, some 42)], [(4, some 43)], [], [], [(6, some 45), (7, some 46)], [(8, some 47)], [(5, some 44), (9, some 48)], [(10, some 49)], [(0, some 39), (1, some 40), (2, some 41), (3, some 42), (4, some 43), (5, some 44), (6, some 45), (7, some 46), (8, some 47), (9, some 48), (10, some 49), (11, some 50)]]
            [(0, some 39), (1, some 40), (2, some 41), (3, some 42), (4, some 43), (5, some 44), (6, some 45), (7, some 46), (8, some 47), (9, some 48), (10, some 49), (11, some 50), (12, some 51)]
            (by kernel_rfl) (by kernel_rfl) (by kernel_rfl) (by kernel_rfl) (by kernel_rfl) (by kernel_rfl) (by decide) (by decide) (fun w1 w2 h hb => ⟨⟨(hb.cell (p := ⟨R, l, none⟩) h.1.2).trans h.1.1, Nat.lt_of_lt_of_le h.1.2 hb.size⟩, h.2.1.keep hb, h.2.2.1.keep hb, h.2.2.2.1.upto (hb.mono (Nat.le_of_lt h.2.2.1.lt)), h.2.2.2.2.1.keep hb, h.2.2.2.2.2.trans (hb.mono (by have := h.2.2.2.2.1.lt; omega))⟩) ?_ ⟨D0.out, D1.out.drew, G5.out.drew, G1.out.drew, G3.out.drew, G4.out.drew⟩ ?_ ?_
          · intro ι w1 w2 v h hb
            match ι, h with
            | 0, h => exact h
            | 1, h => exact h
            | 2, h => exact h
            | 3, h => exact h
            | 4, h => exact h
            | 5, h => exact h
            | 6, h => exact h
            | 7, h => exact h
            | 8, h => exact h
            | 9, h => exact h
            | 10, h => exact h
            | 11, h => exact h
            | 12, h => exact h
            | _ + 13, h => exact h
          · refine ⟨fun γ wx hS h => ?_, fun γ wx hS h => ?_, fun γ wx hS h => ?_, fun γ wx hS h => ?_, fun γ wx hS h => ?_, fun γ wx hS h => ?_, fun γ wx hS h => ?_, fun γ wx hS h => ?_, fun γ wx hS h => ?_, fun γ wx hS h => ?_, fun γ wx hS h => ?_, fun γ wx hS h => ?_, fun γ wx hS h => ?_, trivial⟩
            · refine ⟨_, rfl, Or.inl ⟨rfl, predRun_value (v := .slice (some ⟨C, 0, none⟩) k k) (by simp only [putE]; first | rfl | (go_simp; done) | (go_simp; with_reducible rfl) | (go_simp; rfl)) rfl⟩⟩
            · refine ⟨_, rfl, Or.inl ⟨rfl, predRun_value (v := .int .i64 l) (by simp only [putE]; first | rfl | (go_simp; done) | (go_simp; with_reducible rfl) | (go_simp; rfl)) rfl⟩⟩
            · refine ⟨_, rfl, Or.inl ⟨rfl, predRun_value (v := .slice (some ⟨R, 0, none⟩) (k + 1) cv) (by simp only [putE]; first | rfl | (go_simp; done) | (go_simp; with_reducible rfl) | (go_simp; rfl)) rfl⟩⟩
            · refine ⟨_, rfl, Or.inl ⟨rfl, predRun_value (v := .int .i64 l) (by simp only [putE]; first | rfl | (go_simp; done) | (go_simp; with_reducible rfl) | (go_simp; rfl)) rfl⟩⟩
            · obtain ⟨h2, h3⟩ := h
              have e2 : γ 2 = .slice (some ⟨R, 0, none⟩) (k + 1) cv := h2
              have e3 : γ 3 = .int .i64 l := h3
              refine ⟨_, rfl, Or.inl ⟨rfl, predRun_value (exec_idx137 (x := .tmp 41) (y := .tmp 42) (R := R) (n := k + 1) (cap := cv) (j := l) rfl (by simp only [putE, e2, e3, Act.put, List.setIfInBounds_toArray, List.set_cons_zero, List.set_cons_succ]; rfl) (by simp only [putE, e2, e3, Act.put, List.setIfInBounds_toArray, List.set_cons_zero, List.set_cons_succ]; rfl) rfl (by omega)) rfl⟩⟩
            · have h4 := h
              have e4 : γ 4 = .pointer (some ⟨R, l, none⟩) := h4
              refine ⟨_, rfl, Or.inl ⟨rfl, predRun_value (v := .slice (some ⟨B, 0, none⟩) n c) (by simp only [putE, e4]; have hx := hS.1.1; go_simp) rfl⟩⟩
            · refine ⟨_, rfl, Or.inl ⟨rfl, predRun_value (v := .int .i64 j) (by simp only [putE]; first | rfl | (go_simp; done) | (go_simp; with_reducible rfl) | (go_simp; rfl)) rfl⟩⟩
            · refine ⟨_, rfl, Or.inl ⟨rfl, predRun_value (v := .int .i64 l) (by simp only [putE]; first | rfl | (go_simp; done) | (go_simp; with_reducible rfl) | (go_simp; rfl)) rfl⟩⟩
            · obtain ⟨h6, h7⟩ := h
              have e6 : γ 6 = .int .i64 j := h6
              have e7 : γ 7 = .int .i64 l := h7
              refine ⟨_, rfl, Or.inl ⟨rfl, predRun_value (v := .int .i64 (j / 2 ^ l : Nat)) (by simp only [putE, e6, e7]; first | rfl | (go_simp; done) | (go_simp; with_reducible rfl) | (go_simp; rfl)) rfl⟩⟩
            · have h8 := h
              have e8 : γ 8 = .int .i64 (j / 2 ^ l : Nat) := h8
              refine ⟨_, rfl, Or.inl ⟨rfl, predRun_value (v := .int .i64 (besI j l : Nat)) (by simp only [putE, e8]; have hx := xor_bits j l (by omega) (by omega); first | rfl | (go_simp; done) | (go_simp; with_reducible rfl) | (go_simp; rfl)) rfl⟩⟩
            · obtain ⟨h5, h9⟩ := h
              have e5 : γ 5 = .slice (some ⟨B, 0, none⟩) n c := h5
              have e9 : γ 9 = .int .i64 (besI j l : Nat) := h9
              refine ⟨_, rfl, Or.inl ⟨rfl, predRun_value (exec_idx66 (x := .tmp 44) (y := .tmp 48) (B := B) (n := n) (cap := c) (j := besI j l) rfl (by simp only [putE, e5, e9, Act.put, List.setIfInBounds_toArray, List.set_cons_zero, List.set_cons_succ]; rfl) (by simp only [putE, e5, e9, Act.put, List.setIfInBounds_toArray, List.set_cons_zero, List.set_cons_succ]; rfl) rfl HN.out) rfl⟩⟩
            · have h10 := h
              have e10 : γ 10 = .pointer (some ⟨B, besI j l * 16, none⟩) := h10
              refine ⟨_, rfl, Or.inl ⟨rfl, predRun_value (exec_load_at33 (x := .tmp 49) rfl (by simp only [putE, e10, Act.put, List.setIfInBounds_toArray, List.set_cons_zero, List.set_cons_succ]; rfl) (by have h := hS.2.1.mid (o := besI j l * 16) (n := 16) HM.out; exact HZ.out.2.1 ▸ h) HZ.out.1) rfl⟩⟩
            · obtain ⟨h0, h1, h2, h3, h4, h5, h6, h7, h8, h9, h10, h11⟩ := h
              have e0 : γ 0 = .slice (some ⟨C, 0, none⟩) k k := h0
              have e1 : γ 1 = .int .i64 l := h1
              have e2 : γ 2 = .slice (some ⟨R, 0, none⟩) (k + 1) cv := h2
              have e3 : γ 3 = .int .i64 l := h3
              have e4 : γ 4 = .pointer (some ⟨R, l, none⟩) := h4
              have e5 : γ 5 = .slice (some ⟨B, 0, none⟩) n c := h5
              have e6 : γ 6 = .int .i64 j := h6
              have e7 : γ 7 = .int .i64 l := h7
              have e8 : γ 8 = .int .i64 (j / 2 ^ l : Nat) := h8
              have e9 : γ 9 = .int .i64 (besI j l : Nat) := h9
              have e10 : γ 10 = .pointer (some ⟨B, besI j l * 16, none⟩) := h10
              have e11 : γ 11 = dgV z := h11
              refine ⟨_, rfl, Or.inl ⟨rfl, ?_⟩⟩
              simp only [putE, e0, e1, e2, e3, e4, e5, e6, e7, e8, e9, e10, e11, Act.put, List.setIfInBounds_toArray, List.set_cons_zero, List.set_cons_succ]
              refine predRun_value (v := .pointer (some ⟨C, l * 16, none⟩)) ?_ rfl
              exact exec_idx66 (x := .tmp 39) (y := .tmp 40) rfl rfl rfl rfl hlt
          · intro γ w9 hS h
            have e11 : γ 11 = dgV z := h.2.2.2.2.2.2.2.2.2.2.2.1
            have e12 : γ 12 = .pointer (some ⟨C, l * 16, none⟩) := h.2.2.2.2.2.2.2.2.2.2.2.2
            simp only [putE, Act.put, List.setIfInBounds_toArray, List.set_cons_zero, List.set_cons_succ]
            rw [e11, e12]
            have F1 := Kp.mk hS.2.2.2.1
            have F3 := Kp.mk hS.2.2.2.2.1
            have F4 := Kp.mk hS.2.2.2.2.2
            have F5 := Kp.mk hS.2.2.1
            clear h hS e11 e12 G1 G3 G4 G5 D0 D1
            refine wpOps_step rfl rfl ?_
            refine wp_store_mid 43 (.tmp 51) (.tmp 50) rfl C (l * 16) (kv .u8 z).toArray rfl rfl ?a1 ?a2 ?a3 ?_
            case a1 =>
              have h := F5.out.there (o := l * 16) (n := 16) (by rw [sumsRow_len HQ.out.1 (by omega)]; omega)
              rw [kv_size, HZ.out.1]
              exact h
            case a2 => exact cells50 HZ.out.1
            case a3 => exact kv_all _ _
            have HR3 : Kp (Row (w9.setCells C (l * 16) (kv .u8 z)) C 43 .u8 (sumsRow q k (l + 1))) := ⟨by
              have h := Row.setCells z (l * 16) w9 _ (by rw [sumsRow_len HQ.out.1 (by omega), HZ.out.1]; omega) F5.out
              have e := sumsRow_put HQ.out.1 hlt
              rw [HZ.out.2.2] at e
              rw [e] at h
              exact h⟩
            have hCA := HCA.out
            refine wpOps_done ?_
            go_wp2_with fail
            exact ⟨⟨l + 1, by omega, by go_num, F1.out.upto (Below.cells (Nat.le_refl _) _ _ _ _ (Below.refl _ _)), Row.otherCells (by omega) _ _ _ F3.out, HR3.out, Below.cells (by omega) _ _ _ _ F4.out⟩, by simp [intOf]; omega⟩
        · have hl' : l = k := by omega
          subst hl'
          obtain ⟨B, c, hD0, hD1⟩ := HTG.out wr G1.out 0 (by omega)
          have c0 : wr.cell? ⟨R, 0, none⟩ = some (.slice (some ⟨B, 0, none⟩) (2 ^ (l - 0)) c) := hD0.1
          obtain ⟨z, hz⟩ : ∃ z, z = nodeS d e s r x 0 j := ⟨_, rfl⟩
          have HZ : Kp (z.length = 16) := ⟨by rw [hz]; exact nodeS_len _ _ _ _ _ _ _⟩
          have D1 : Kp (wr.rangeAt B (j * 16) (kv .u8 z)) := ⟨by
            have h := hD1.mid (o := j * 16) (n := 16) (by rw [lvlN_len]; have := HJ.out; simp; omega)
            have e := lvlN_seg d e s r x l 0 j HJ.out
            unfold segL at e
            rw [e, ← hz] at h
            exact h⟩
          obtain ⟨n, hn⟩ : ∃ n, n = 2 ^ (l - 0) := ⟨_, rfl⟩
          have hjn : j < n := by rw [hn]; exact HJ.out
          rw [← hn] at c0
          rw [sumsRow_all HQ.out.1] at G5
          have HF := Kp.mk (G3.out.setRow z)
          have HBf := Kp.mk (Below.row G4.out (g := A + 1 + 1) (by omega) (kv .u8 z).toArray)
          have HCA' := HCA.out
          have HW := Kp.mk (Row.otherRow G5.out (g := A + 1 + 1) (by omega) (kv .u8 z).toArray)
          have HZe := Kp.mk hz
          clear hD0 hD1 hn hz HCA'
          go_wp2_with first
            | (refine wpList_load_mid rfl 43 (.tmp 57) rfl B (j * 16) rfl (kv .u8 z) _ D1.out Tryd.underlying43 rfl (by rw [info33L, List.length_map, HZ.out]) ?_)
            | (refine wpList_store_row rfl 43 (.tmp 10) (.tmp 58) rfl (A + 1 + 1) (kv .u8 z).toArray rfl rfl 43 _ G3.out (cells50 HZ.out) (size50 HZ.out) (kv_all _ _) ?_)
          refine bodyPost_ret (results_show (v := .slice (some ⟨C, 0, none⟩) l l) rfl rfl rfl HF.out HZ.out) rfl ⟨_, by rw [HU.out.1, HU.out.2.1, HZe.out], ?_, FreshS.some (by rw [← HA.out]; have := HCA.out; omega) HW.out.lt, by rw [← HA.out]; exact HBf.out⟩
          rw [HU.out.2.2.1, HU.out.2.2.2]
          exact HoldsS.row (by rw [← HQ9.out]; exact HW.out) (wayL_len _ _ _ _ _ _ _) (wayL_bytes _ _ _ _ _ _ _) (by omega)
end Go.Proofs.YtibbinenhmiclaaDoor

namespace Go.Proofs.YtibbinenhmiclaaDoor
open Go.RowKit

/-- What stands at a level and a place above leaves; what is summed for it. -/
def nodeG (d e : Int) (L : List Int) : Nat → Nat → List Int
  | 0, q => segL L q
  | v + 1, q => shortL (aboveT d e (v + 1) (nodeG d e L v (2 * q)) (nodeG d e L v (2 * q + 1)))
def nodeGT (d e : Int) (L : List Int) : Nat → Nat → List (List Int)
  | 0, _ => []
  | v + 1, q => (nodeGT d e L v (2 * q) ++ nodeGT d e L v (2 * q + 1)) ++ [aboveT d e (v + 1) (nodeG d e L v (2 * q)) (nodeG d e L v (2 * q + 1))]
theorem nodeG_len {d e : Int} {L : List Int} {n : Nat} (hL : L.length = n * 16) : ∀ (v q : Nat), (q + 1) * 2 ^ v ≤ n → (nodeG d e L v q).length = 16
  | 0, q, h => segL_len hL (by simp at h; omega)
  | _ + 1, _, _ => shortL_len _
theorem nodeG_bytes {d e : Int} {L : List Int} (hL : Bytes L) : ∀ (v q : Nat), Bytes (nodeG d e L v q)
  | 0, q => hL.seg q
  | _ + 1, _ => shortL_bytes _
theorem nodeGT_len (d e : Int) (L : List Int) : ∀ (v q : Nat), (nodeGT d e L v q).length = 2 ^ v - 1
  | 0, _ => rfl
  | v + 1, q => by
    rw [nodeGT, List.length_append, List.length_append, nodeGT_len d e L v, nodeGT_len d e L v, List.length_singleton, Nat.pow_succ]
    have : 0 < 2 ^ v := Nat.pow_pos (by decide)
    omega
/-- The path from a leaf. -/
def pathG (d e : Int) (L : List Int) (h j : Nat) : List Int := rowsL (fun l => nodeG d e L l (besI j l)) h
theorem below_pow {j l h : Nat} (hj : j < 2 ^ h) (hl : l ≤ h) : (j / 2 ^ l + 1) * 2 ^ l ≤ 2 ^ h := by
  have h1 : j / 2 ^ l < 2 ^ (h - l) := by
    rw [Nat.div_lt_iff_lt_mul (Nat.pow_pos (by decide)), ← Nat.pow_add, Nat.sub_add_cancel hl]
    exact hj
  calc (j / 2 ^ l + 1) * 2 ^ l ≤ 2 ^ (h - l) * 2 ^ l := Nat.mul_le_mul_right _ h1
    _ = 2 ^ h := by rw [← Nat.pow_add, Nat.sub_add_cancel hl]
theorem beside_pow {j l h : Nat} (hj : j < 2 ^ h) (hl : l < h) : (besI j l + 1) * 2 ^ l ≤ 2 ^ h := by
  have h1 := besI_lt hj hl
  calc (besI j l + 1) * 2 ^ l ≤ 2 ^ (h - l) * 2 ^ l := Nat.mul_le_mul_right _ h1
    _ = 2 ^ h := by rw [← Nat.pow_add, Nat.sub_add_cancel (Nat.le_of_lt hl)]
theorem rowsL_len' {f : Nat → List Int} : ∀ n, (∀ i, i < n → (f i).length = 16) → (rowsL f n).length = n * 16
  | 0, _ => rfl
  | n + 1, h => by
    rw [rowsL, List.length_append, rowsL_len' n (fun i hi => h i (by omega)), h n (by omega)]
    omega
theorem rowsL_mid' {f : Nat → List Int} : ∀ n, (∀ i, i < n → (f i).length = 16) → ∀ i, i < n → segL (rowsL f n) i = f i
  | 0, _, i, hi => by omega
  | n + 1, h, i, hi => by
    have hl := rowsL_len' n (fun i hi => h i (by omega))
    unfold segL
    rw [rowsL]
    by_cases hlt : i < n
    · rw [List.drop_append_of_le_length (by omega), List.take_append_of_le_length (by rw [List.length_drop]; omega)]
      exact rowsL_mid' n (fun i hi => h i (by omega)) i hlt
    · have : i = n := by omega
      subst this
      rw [List.drop_append, hl, Nat.sub_self, List.drop_of_length_le (by omega), List.nil_append, List.drop_zero, List.take_of_length_le (by rw [h i (by omega)]; omega)]
theorem pathG_len {d e : Int} {L : List Int} {h j : Nat} (hL : L.length = 2 ^ h * 16) (hj : j < 2 ^ h) : (pathG d e L h j).length = h * 16 :=
  rowsL_len' h fun l hl => nodeG_len hL l _ (beside_pow hj hl)
theorem pathG_bytes {d e : Int} {L : List Int} (hL : Bytes L) (h j : Nat) : Bytes (pathG d e L h j) := rowsL_bytes (fun _ => nodeG_bytes hL _ _) _
theorem pathG_seg {d e : Int} {L : List Int} {h j l : Nat} (hL : L.length = 2 ^ h * 16) (hj : j < 2 ^ h) (hl : l < h) : segL (pathG d e L h j) l = nodeG d e L l (besI j l) :=
  rowsL_mid' (f := fun l => nodeG d e L l (besI j l)) h (fun l hl => nodeG_len hL l _ (beside_pow hj hl)) l hl
/-- The path of each leaf leads to the root. -/
theorem foldL_path {d e : Int} {L : List Int} {h j : Nat} (hL : L.length = 2 ^ h * 16) (hj : j < 2 ^ h) : ∀ l, l ≤ h → foldL d e (segL L j) j (pathG d e L h j) l = nodeG d e L l (j / 2 ^ l)
  | 0, _ => by simp [foldL, nodeG]
  | l + 1, hl => by
    have hd : j / 2 ^ (l + 1) = j / 2 ^ l / 2 := by rw [Nat.pow_succ, Nat.div_div_eq_div_mul]
    rw [foldL, foldL_path hL hj l (by omega), pathG_seg hL hj (by omega), hd, nodeG]
    unfold besI
    generalize j / 2 ^ l = q
    by_cases hp : q % 2 = 1
    · rw [if_pos hp, if_pos hp]
      have e1 : 2 * (q / 2) = q - 1 := by omega
      have e2 : 2 * (q / 2) + 1 = q := by omega
      rw [e2, e1]
    · rw [if_neg hp, if_neg hp]
      have e1 : 2 * (q / 2) = q := by omega
      rw [e1]
/-- The texts that are summed on the way. -/
def foldTL (d e : Int) (x : List Int) (j : Nat) (p : List Int) : Nat → List (List Int)
  | 0 => []
  | l + 1 => foldTL d e x j p l ++ [if j / 2 ^ l % 2 = 1 then aboveT d e (l + 1) (segL p l) (foldL d e x j p l) else aboveT d e (l + 1) (foldL d e x j p l) (segL p l)]
def foldT (d e : Int) (x : List Int) (i : Int) (p : List Int) (n : Nat) : List (List Int) := if foldOk i n then foldTL d e x i.toNat p n else []
theorem foldTL_len (d e : Int) (x : List Int) (j : Nat) (p : List Int) : ∀ l, (foldTL d e x j p l).length = l
  | 0 => rfl
  | l + 1 => by rw [foldTL, List.length_append, foldTL_len d e x j p l]; rfl
theorem foldTL_at (d e : Int) (x : List Int) (j : Nat) (p : List Int) : ∀ (n l : Nat), l < n → (foldTL d e x j p n).getD l [] = if j / 2 ^ l % 2 = 1 then aboveT d e (l + 1) (segL p l) (foldL d e x j p l) else aboveT d e (l + 1) (foldL d e x j p l) (segL p l)
  | 0, l, h => by omega
  | n + 1, l, h => by
    rw [foldTL]
    by_cases hl : l < n
    · rw [List.getD_eq_getElem?_getD, List.getElem?_append_left (by rw [foldTL_len]; exact hl), ← List.getD_eq_getElem?_getD]
      exact foldTL_at d e x j p n l hl
    · have : l = n := by omega
      subst this
      rw [List.getD_eq_getElem?_getD, List.getElem?_append_right (by rw [foldTL_len]; omega), foldTL_len, Nat.sub_self]
      rfl
theorem aboveT_inj {d e v : Int} {x y x' y' : List Int} (hx : x.length = 16) (hx' : x'.length = 16) (h : aboveT d e v x y = aboveT d e v x' y') : x = x' ∧ y = y' := by
  unfold aboveT at h
  simp only [List.cons.injEq, true_and, List.append_assoc] at h
  have h1 := List.append_cancel_left h
  exact List.append_inj h1 (by omega)
end Go.Proofs.YtibbinenhmiclaaDoor
