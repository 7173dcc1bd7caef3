/-
  layer 14: the document's put.
-/
import Derived.Test.YtgikedbnnlckjaaRsB
namespace Go.Proofs.Ytgikedbnnlckjaa
open Go.RowKit

theorem info98 : (Try.prog.info? 98).map (fun i => (i.zero, i.size, i.bytes)) = some (some (.agg z82.toArray), 65, 72) := by kernel_rfl
theorem info98s : (Try.prog.info? 98).map (·.size) = some 65 := by kernel_rfl
theorem build73 {k : Nat} {z : List Int} (h : z.length = 64) (w : World) : (Instr.buildSlice 73 1 #[(0, .agg (wcells (k, z)).toArray)]).run Try.prog w = .ok (.slice (some ⟨w.heap.size, 0, none⟩) 1 1) (w.alloc (.cells (wcells (k, z)).toArray 98)) := by
  obtain ⟨f, rfl⟩ := list64 h
  kernel_rfl
theorem ownsRow_lower {w : World} {B B' e sz n : Nat} {v : Value} {xs : List Value} (h : w.ownsRow B e sz v n xs) (hB : B' ≤ B) : w.ownsRow B' e sz v n xs := by
  obtain ⟨h1, h2⟩ := h
  refine ⟨h1, ?_⟩
  rcases h2 with h2 | ⟨g, cap, cur, rfl, a1, a2, a3, a4, a5, a6⟩
  · exact .inl h2
  · exact .inr ⟨g, cap, cur, rfl, by omega, a2, a3, a4, a5, a6⟩
/-- What stands beside a write of sector k. -/
def flt (k : Nat) (l : List (Nat × List Int)) : List (Nat × List Int) := l.filter fun y => y.1 != k
def rputL (l : List (Nat × List Int)) (x : Nat × List Int) : List (Nat × List Int) := flt x.1 l ++ [x]
theorem flt_snoc (k : Nat) (l : List (Nat × List Int)) (y : Nat × List Int) : flt k (l ++ [y]) = if y.1 = k then flt k l else flt k l ++ [y] := by
  unfold flt
  rw [List.filter_append]
  by_cases h : y.1 = k <;> simp [List.filter_cons, h]
theorem flt_len (k : Nat) (l : List (Nat × List Int)) : (flt k l).length ≤ l.length := List.length_filter_le _ _
theorem flt_mem {k : Nat} {l : List (Nat × List Int)} {y : Nat × List Int} (h : y ∈ flt k l) : y ∈ l := (List.mem_filter.1 h).1
theorem box_row' {t : TypeId} {cs : List Value} (h1 : (Try.prog.info? t).map (·.size) = some cs.toArray.size) (w : World) : (Instr.box t (.agg cs.toArray)).run Try.prog w = .ok (.pointer (some ⟨w.heap.size, 0, none⟩)) (w.alloc (.cells cs.toArray t)) := box_row h1 w
set_option maxRecDepth 100000 in
set_option maxHeartbeats 4000000 in
theorem rput_any (M kx : Nat) (v1 v2 : Value) (r : RlS) (zx : List Int) (w : World) (h : RlIs w M v1 v2 r) (hz : zx.length = 64) (hzb : Bytes zx) (hs : r.sure.length + 1 ≤ 1000000) :
    Calls Try.prog 53 #[rP M, .agg (wcells (kx, zx)).toArray] w fun e w' => (∃ u, e = .returned u) ∧ ∃ v1', RStep M v1 v2 v1' v2 { r with sure := rputL r.sure (kx, zx) } w w' := by
  have H := Kp.mk h
  have HZ := Kp.mk hz
  have HZb := Kp.mk hzb
  have HSL := Kp.mk hs
  obtain ⟨i0, hi98, hz0, hz1, hz2⟩ := info_parts info98
  have H65 : Kp ((wcells (kx, zx)).length = 65) := ⟨by rw [wcells_len hz]⟩
  have hC := fun (w : World) => box_row' (t := 98) (cs := wcells (kx, zx)) (by rw [List.size_toArray, H65.out]; exact info98s) w
  obtain ⟨⟨a, c, hv⟩, -⟩ := h.slices
  subst hv
  obtain ⟨ln, hln⟩ : ∃ ln, ln = r.sure.length := ⟨_, rfl⟩
  have HLN := Kp.mk hln
  rw [← hln] at H ⊢
  have HWr : Kp (Wr w a r.sure) := ⟨own_wr h.o1 (fun x hx => (h.k.s1 x hx).1)⟩
  have HS1 : Kp (∀ x ∈ r.sure, x.2.length = 64 ∧ Bytes x.2) := ⟨h.k.s1⟩
  have hmx : ln ≤ 1000000 := by rw [hln]; exact h.k.sl
  obtain ⟨F, hF⟩ : ∃ F, F = w.heap.size := ⟨_, rfl⟩
  have HF := Kp.mk hF
  have HMF : Kp (M < F) := ⟨by rw [hF]; exact h.lt⟩
  clear h hln hz hzb hs
  go_enter Try.func53, Try.ntmps53
  go_wp2_with (refine wpList_box_eq rfl 98 (.tmp 1) rfl _ rfl _ _ (hC _) ?_; rw [← HF.out]; refine wpl_world (w := w.alloc (.cells (wcells (kx, zx)).toArray 98)) (fun w2 => Blk w2 F (.cells (wcells (kx, zx)).toArray 98) ∧ Below F w w2) ⟨Blk.newAt _ HF.out, by rw [HF.out]; exact more (Below.refl _ _) _⟩ ?_; rintro W1 ⟨h1, h2⟩; have K1 := Kp.mk h1; have K2 := Kp.mk h2; clear h1 h2 hF)
  clear hC
  go_loopw [4, 5] (fun vl i wr => ∃ j : Nat, j ≤ ln ∧ i = .int .i64 j ∧ Below (F + 1) W1 wr ∧ wr.ownsRow (F + 1) 98 65 vl (flt kx (r.sure.take j)).length (qcells (flt kx (r.sure.take j)))) (fun _ i _ => ln - (intOf i).toNat)
  case atStart => exact ⟨0, Nat.zero_le _, rfl, Below.refl _ _, World.ownsRow_nil _ _ _ _⟩
  case round =>
    obtain ⟨vl, hvl⟩ : ∃ vl, vl = u4 := ⟨_, rfl⟩
    rw [← hvl] at hrel ⊢
    clear hvl
    obtain ⟨j, hj, rfl, hb, ho⟩ := hrel
    have HB := Kp.mk hb
    have HO := Kp.mk ho
    have HBF : Kp (Below F w wr) := ⟨K2.out.trans (hb.mono (by omega))⟩
    have HR : Kp (RlIs wr M (.slice a ln c) v2 r) := ⟨H.out.keep (by rw [← HF.out]; exact HBF.out)⟩
    have HBk : Kp (Blk wr F (.cells (wcells (kx, zx)).toArray 98)) := ⟨Blk.upto K1.out hb (by omega)⟩
    have HN : Kp (F < wr.heap.size) := ⟨HBk.out.lt⟩
    have c1 : wr.cell? ⟨M, 1, none⟩ = some (.slice a ln c) := HR.out.cells.1.2.1
    have cF : wr.cell? ⟨F, 0, none⟩ = some (.int .i64 (kx : Nat)) := by rw [HBk.out.cell 0]; rfl
    clear hb ho
    by_cases hjl : j < ln
    · have hjl' : (j : Int) < (ln : Int) := by omega
      have hjll : j < r.sure.length := by rw [← HLN.out]; exact hjl
      obtain ⟨b, rfl, hb1, hb2⟩ := HWr.out j hjll
      obtain ⟨yk, yz, hy⟩ : ∃ yk yz, r.sure[j] = (yk, yz) := ⟨_, _, rfl⟩
      rw [hy] at hb2
      have HRY : Kp (wr.rangeAt b (j * 65) (wcells (yk, yz))) := ⟨rangeAt_below HBF.out (by rw [HF.out]; exact hb1) hb2⟩
      have HYL : Kp (yz.length = 64 ∧ Bytes yz) := ⟨by have := HS1.out _ (List.getElem_mem hjll); rw [hy] at this; exact this⟩
      have cy : wr.cell? ⟨b, j * 65, none⟩ = some (.int .i64 (yk : Nat)) := HRY.out 0 _ rfl
      have HS : Kp (flt kx (r.sure.take (j + 1)) = if yk = kx then flt kx (r.sure.take j) else flt kx (r.sure.take j) ++ [(yk, yz)]) := ⟨by rw [List.take_add_one, List.getElem?_eq_getElem hjll, hy]; simp only [Option.toList_some]; rw [flt_snoc]⟩
      have HFL : Kp ((flt kx (r.sure.take j)).length + 1 ≤ 1000000) := ⟨by have := flt_len kx (r.sure.take j); rw [List.length_take] at this; have := HSL.out; omega⟩
      have HY65 : Kp ((wcells (yk, yz)).length = 65) := ⟨by rw [wcells_len HYL.out.1]⟩
      clear hy hb2 hjll
      by_cases hk : yk = kx
      · have HNE : Kp (((yk : Int) != (kx : Int)) = false) := ⟨by simp [hk]⟩
        have HK := Kp.mk hk
        clear hk
        go_wp2_with fail
        refine wp_region_held_drew (S := fun w' => w'.cell? ⟨M, 1, none⟩ = some (.slice (some ⟨b, 0, none⟩) ln c) ∧ w'.cell? ⟨b, j * 65, none⟩ = some (.int .i64 (yk : Nat)) ∧ w'.cell? ⟨F, 0, none⟩ = some (.int .i64 (kx : Nat))) (by kernel_rfl) (⟨c1, cy, cF⟩) (fun hH => ?_)
        refine wpAnyH_take (i := 0) (oi := { dst := some 15, op := Go.Op.move (Go.Operand.tmp 0), type := 28, pos := "ref.go:62", after := #[], guard := none }) (v := rP M) rfl (by kernel_rfl) (by kernel_rfl) (by kernel_rfl) (fun _ _ _ h => h) (Or.inl ⟨by rfl, fun w hS => by first | rfl | go_simp⟩) hH ?_
        simp only [Act.put, List.setIfInBounds_toArray, List.set_cons_zero, List.set_cons_succ]
        refine wpAnyH_take (i := 1) (oi := { dst := some 16, op := Go.Op.nilCheck (Go.Operand.tmp 15), type := 0, pos := "ref.go:62", after := #[{ on := 0, ground := Go.Ground.data }], guard := none }) (v := rP M) rfl (by kernel_rfl) (by kernel_rfl) (by kernel_rfl) (fun _ _ _ h => h) (Or.inl ⟨by rfl, fun w hS => by first | rfl | go_simp⟩) hH ?_
        simp only [Act.put, List.setIfInBounds_toArray, List.set_cons_zero, List.set_cons_succ]
        refine wpAnyH_take (i := 2) (oi := { dst := some 17, op := Go.Op.fieldAddr 75 (Go.Operand.tmp 16) 1, type := 0, pos := "ref.go:62", after := #[{ on := 1, ground := Go.Ground.data }], guard := none }) (v := .pointer (some ⟨M, 1, none⟩)) rfl (by kernel_rfl) (by kernel_rfl) (by kernel_rfl) (fun _ _ _ h => h) (Or.inl ⟨by rfl, fun w hS => by first | rfl | go_simp⟩) hH ?_
        simp only [Act.put, List.setIfInBounds_toArray, List.set_cons_zero, List.set_cons_succ]
        refine wpAnyH_take (i := 3) (oi := { dst := some 18, op := Go.Op.load 73 (Go.Operand.tmp 17), type := 73, pos := "ref.go:62", after := #[{ on := 2, ground := Go.Ground.data }], guard := none }) (v := .slice (some ⟨b, 0, none⟩) ln c) rfl (by kernel_rfl) (by kernel_rfl) (by kernel_rfl) (fun _ _ _ h => h) (Or.inl ⟨by rfl, fun w hS => by have h1 := hS.1; go_simp⟩) hH ?_
        simp only [Act.put, List.setIfInBounds_toArray, List.set_cons_zero, List.set_cons_succ]
        refine wpAnyH_take (i := 4) (oi := { dst := some 19, op := Go.Op.move (Go.Operand.tmp 5), type := 3, pos := "ref.go:62", after := #[], guard := none }) (v := .int .i64 (j : Nat)) rfl (by kernel_rfl) (by kernel_rfl) (by kernel_rfl) (fun _ _ _ h => h) (Or.inl ⟨by rfl, fun w hS => by first | rfl | go_simp⟩) hH ?_
        simp only [Act.put, List.setIfInBounds_toArray, List.set_cons_zero, List.set_cons_succ]
        refine wpAnyH_take (i := 5) (oi := { dst := some 20, op := Go.Op.indexAddr 73 (Go.Operand.tmp 18) (Go.Operand.tmp 19), type := 0, pos := "ref.go:62", after := #[{ on := 3, ground := Go.Ground.data }, { on := 4, ground := Go.Ground.data }], guard := none }) (v := .pointer (some ⟨b, j * 65, none⟩)) rfl (by kernel_rfl) (by kernel_rfl) (by kernel_rfl) (fun _ _ _ h => h) (Or.inl ⟨by rfl, fun w hS => by have h1 := hjl'; go_simp⟩) hH ?_
        simp only [Act.put, List.setIfInBounds_toArray, List.set_cons_zero, List.set_cons_succ]
        refine wpAnyH_take (i := 6) (oi := { dst := some 21, op := Go.Op.fieldAddr 98 (Go.Operand.tmp 20) 0, type := 0, pos := "ref.go:62", after := #[{ on := 5, ground := Go.Ground.data }], guard := none }) (v := .pointer (some ⟨b, j * 65, none⟩)) rfl (by kernel_rfl) (by kernel_rfl) (by kernel_rfl) (fun _ _ _ h => h) (Or.inl ⟨by rfl, fun w hS => by first | rfl | go_simp⟩) hH ?_
        simp only [Act.put, List.setIfInBounds_toArray, List.set_cons_zero, List.set_cons_succ]
        refine wpAnyH_take (i := 7) (oi := { dst := some 22, op := Go.Op.load 3 (Go.Operand.tmp 21), type := 3, pos := "ref.go:62", after := #[{ on := 6, ground := Go.Ground.data }], guard := none }) (v := .int .i64 (yk : Nat)) rfl (by kernel_rfl) (by kernel_rfl) (by kernel_rfl) (fun _ _ _ h => h) (Or.inl ⟨by rfl, fun w hS => by have h1 := hS.2.1; go_simp⟩) hH ?_
        simp only [Act.put, List.setIfInBounds_toArray, List.set_cons_zero, List.set_cons_succ]
        refine wpAnyH_take (i := 8) (oi := { dst := some 23, op := Go.Op.fieldAddr 98 (Go.Operand.tmp 3) 0, type := 0, pos := "ref.go:62", after := #[], guard := none }) (v := .pointer (some ⟨F, 0, none⟩)) rfl (by kernel_rfl) (by kernel_rfl) (by kernel_rfl) (fun _ _ _ h => h) (Or.inl ⟨by rfl, fun w hS => by first | rfl | go_simp⟩) hH ?_
        simp only [Act.put, List.setIfInBounds_toArray, List.set_cons_zero, List.set_cons_succ]
        refine wpAnyH_take (i := 9) (oi := { dst := some 24, op := Go.Op.load 3 (Go.Operand.tmp 23), type := 3, pos := "ref.go:62", after := #[{ on := 8, ground := Go.Ground.data }], guard := none }) (v := .int .i64 (kx : Nat)) rfl (by kernel_rfl) (by kernel_rfl) (by kernel_rfl) (fun _ _ _ h => h) (Or.inl ⟨by rfl, fun w hS => by have h1 := hS.2.2; go_simp⟩) hH ?_
        simp only [Act.put, List.setIfInBounds_toArray, List.set_cons_zero, List.set_cons_succ]
        refine wpAnyH_take (i := 10) (oi := { dst := some 25, op := Go.Op.binOp Go.BinOp.neq 3 (Go.Operand.tmp 22) (Go.Operand.tmp 24) 3, type := 4, pos := "ref.go:62", after := #[{ on := 7, ground := Go.Ground.data }, { on := 9, ground := Go.Ground.data }], guard := none }) (v := .bool false) rfl (by kernel_rfl) (by kernel_rfl) (by kernel_rfl) (fun _ _ _ h => h) (Or.inl ⟨by rfl, fun w hS => by have h1 := HNE.out; go_simp⟩) hH ?_
        simp only [Act.put, List.setIfInBounds_toArray, List.set_cons_zero, List.set_cons_succ]
        clear hH
        refine wpAnyH_done (by kernel_rfl) ?_ _
        go_wp2_with fail
        go_roundw
        case rel => exact ⟨j + 1, by omega, by first | rfl | go_num, HB.out.trans ⟨rfl, rfl, rfl, Nat.le_refl _, fun _ _ => rfl⟩, by rw [HS.out, if_pos HK.out]; exact ownsRow_below HO.out ⟨rfl, rfl, rfl, Nat.le_refl _, fun _ _ => rfl⟩⟩
        case measure => simp [intOf] <;> omega
      · have HNE : Kp (((yk : Int) != (kx : Int)) = true) := ⟨by simp; omega⟩
        have HK := Kp.mk hk
        clear hk
        go_wp2_with fail
        refine wp_region_held_drew (S := fun w' => w'.cell? ⟨M, 1, none⟩ = some (.slice (some ⟨b, 0, none⟩) ln c) ∧ w'.cell? ⟨b, j * 65, none⟩ = some (.int .i64 (yk : Nat)) ∧ w'.cell? ⟨F, 0, none⟩ = some (.int .i64 (kx : Nat))) (by kernel_rfl) (⟨c1, cy, cF⟩) (fun hH => ?_)
        refine wpAnyH_take (i := 0) (oi := { dst := some 15, op := Go.Op.move (Go.Operand.tmp 0), type := 28, pos := "ref.go:62", after := #[], guard := none }) (v := rP M) rfl (by kernel_rfl) (by kernel_rfl) (by kernel_rfl) (fun _ _ _ h => h) (Or.inl ⟨by rfl, fun w hS => by first | rfl | go_simp⟩) hH ?_
        simp only [Act.put, List.setIfInBounds_toArray, List.set_cons_zero, List.set_cons_succ]
        refine wpAnyH_take (i := 1) (oi := { dst := some 16, op := Go.Op.nilCheck (Go.Operand.tmp 15), type := 0, pos := "ref.go:62", after := #[{ on := 0, ground := Go.Ground.data }], guard := none }) (v := rP M) rfl (by kernel_rfl) (by kernel_rfl) (by kernel_rfl) (fun _ _ _ h => h) (Or.inl ⟨by rfl, fun w hS => by first | rfl | go_simp⟩) hH ?_
        simp only [Act.put, List.setIfInBounds_toArray, List.set_cons_zero, List.set_cons_succ]
        refine wpAnyH_take (i := 2) (oi := { dst := some 17, op := Go.Op.fieldAddr 75 (Go.Operand.tmp 16) 1, type := 0, pos := "ref.go:62", after := #[{ on := 1, ground := Go.Ground.data }], guard := none }) (v := .pointer (some ⟨M, 1, none⟩)) rfl (by kernel_rfl) (by kernel_rfl) (by kernel_rfl) (fun _ _ _ h => h) (Or.inl ⟨by rfl, fun w hS => by first | rfl | go_simp⟩) hH ?_
        simp only [Act.put, List.setIfInBounds_toArray, List.set_cons_zero, List.set_cons_succ]
        refine wpAnyH_take (i := 3) (oi := { dst := some 18, op := Go.Op.load 73 (Go.Operand.tmp 17), type := 73, pos := "ref.go:62", after := #[{ on := 2, ground := Go.Ground.data }], guard := none }) (v := .slice (some ⟨b, 0, none⟩) ln c) rfl (by kernel_rfl) (by kernel_rfl) (by kernel_rfl) (fun _ _ _ h => h) (Or.inl ⟨by rfl, fun w hS => by have h1 := hS.1; go_simp⟩) hH ?_
        simp only [Act.put, List.setIfInBounds_toArray, List.set_cons_zero, List.set_cons_succ]
        refine wpAnyH_take (i := 4) (oi := { dst := some 19, op := Go.Op.move (Go.Operand.tmp 5), type := 3, pos := "ref.go:62", after := #[], guard := none }) (v := .int .i64 (j : Nat)) rfl (by kernel_rfl) (by kernel_rfl) (by kernel_rfl) (fun _ _ _ h => h) (Or.inl ⟨by rfl, fun w hS => by first | rfl | go_simp⟩) hH ?_
        simp only [Act.put, List.setIfInBounds_toArray, List.set_cons_zero, List.set_cons_succ]
        refine wpAnyH_take (i := 5) (oi := { dst := some 20, op := Go.Op.indexAddr 73 (Go.Operand.tmp 18) (Go.Operand.tmp 19), type := 0, pos := "ref.go:62", after := #[{ on := 3, ground := Go.Ground.data }, { on := 4, ground := Go.Ground.data }], guard := none }) (v := .pointer (some ⟨b, j * 65, none⟩)) rfl (by kernel_rfl) (by kernel_rfl) (by kernel_rfl) (fun _ _ _ h => h) (Or.inl ⟨by rfl, fun w hS => by have h1 := hjl'; go_simp⟩) hH ?_
        simp only [Act.put, List.setIfInBounds_toArray, List.set_cons_zero, List.set_cons_succ]
        refine wpAnyH_take (i := 6) (oi := { dst := some 21, op := Go.Op.fieldAddr 98 (Go.Operand.tmp 20) 0, type := 0, pos := "ref.go:62", after := #[{ on := 5, ground := Go.Ground.data }], guard := none }) (v := .pointer (some ⟨b, j * 65, none⟩)) rfl (by kernel_rfl) (by kernel_rfl) (by kernel_rfl) (fun _ _ _ h => h) (Or.inl ⟨by rfl, fun w hS => by first | rfl | go_simp⟩) hH ?_
        simp only [Act.put, List.setIfInBounds_toArray, List.set_cons_zero, List.set_cons_succ]
        refine wpAnyH_take (i := 7) (oi := { dst := some 22, op := Go.Op.load 3 (Go.Operand.tmp 21), type := 3, pos := "ref.go:62", after := #[{ on := 6, ground := Go.Ground.data }], guard := none }) (v := .int .i64 (yk : Nat)) rfl (by kernel_rfl) (by kernel_rfl) (by kernel_rfl) (fun _ _ _ h => h) (Or.inl ⟨by rfl, fun w hS => by have h1 := hS.2.1; go_simp⟩) hH ?_
        simp only [Act.put, List.setIfInBounds_toArray, List.set_cons_zero, List.set_cons_succ]
        refine wpAnyH_take (i := 8) (oi := { dst := some 23, op := Go.Op.fieldAddr 98 (Go.Operand.tmp 3) 0, type := 0, pos := "ref.go:62", after := #[], guard := none }) (v := .pointer (some ⟨F, 0, none⟩)) rfl (by kernel_rfl) (by kernel_rfl) (by kernel_rfl) (fun _ _ _ h => h) (Or.inl ⟨by rfl, fun w hS => by first | rfl | go_simp⟩) hH ?_
        simp only [Act.put, List.setIfInBounds_toArray, List.set_cons_zero, List.set_cons_succ]
        refine wpAnyH_take (i := 9) (oi := { dst := some 24, op := Go.Op.load 3 (Go.Operand.tmp 23), type := 3, pos := "ref.go:62", after := #[{ on := 8, ground := Go.Ground.data }], guard := none }) (v := .int .i64 (kx : Nat)) rfl (by kernel_rfl) (by kernel_rfl) (by kernel_rfl) (fun _ _ _ h => h) (Or.inl ⟨by rfl, fun w hS => by have h1 := hS.2.2; go_simp⟩) hH ?_
        simp only [Act.put, List.setIfInBounds_toArray, List.set_cons_zero, List.set_cons_succ]
        refine wpAnyH_take (i := 10) (oi := { dst := some 25, op := Go.Op.binOp Go.BinOp.neq 3 (Go.Operand.tmp 22) (Go.Operand.tmp 24) 3, type := 4, pos := "ref.go:62", after := #[{ on := 7, ground := Go.Ground.data }, { on := 9, ground := Go.Ground.data }], guard := none }) (v := .bool true) rfl (by kernel_rfl) (by kernel_rfl) (by kernel_rfl) (fun _ _ _ h => h) (Or.inl ⟨by rfl, fun w hS => by have h1 := HNE.out; go_simp⟩) hH ?_
        simp only [Act.put, List.setIfInBounds_toArray, List.set_cons_zero, List.set_cons_succ]
        clear hH
        refine wpAnyH_done (by kernel_rfl) ?_ _
        obtain ⟨W2, hW2⟩ : ∃ W2, W2 = wr.drew := ⟨_, rfl⟩
        have HW2 : Kp (Below wr.heap.size wr W2) := ⟨by rw [hW2]; exact ⟨rfl, rfl, rfl, Nat.le_refl _, fun _ _ => rfl⟩⟩
        rw [← hW2]
        have c1' : W2.cell? ⟨M, 1, none⟩ = some (.slice (some ⟨b, 0, none⟩) ln c) := by rw [hW2]; exact c1
        have HO2 := Kp.mk (ownsRow_below HO.out HW2.out)
        have HRY2 := Kp.mk (rangeAt_below HW2.out (by have := HBF.out.size; rw [HF.out] at *; omega) HRY.out)
        have HN2 : Kp (F < W2.heap.size) := ⟨Nat.lt_of_lt_of_le HN.out HW2.out.size⟩
        have HB2 : Kp (Below (F + 1) W1 W2) := ⟨HB.out.trans (HW2.out.mono HN.out)⟩
        clear hW2 c1 cF cy
        go_wp2_with (first
          | (refine wpList_load_mid rfl 98 (.tmp 32) rfl b (j * 65) rfl (wcells (yk, yz)) _ HRY2.out Try.underlying98 rfl (by rw [HY65.out]; exact info98s) ?_)
          | (refine wpList_buildSlice_one rfl 73 1 (.tmp 33) rfl (.agg (wcells (yk, yz)).toArray) rfl (.slice (some ⟨W2.heap.size, 0, none⟩) 1 1) (W2.alloc (.cells (wcells (yk, yz)).toArray 98)) (build73 HYL.out.1 W2) ?_)
          | (refine wpList_append_own2 rfl (.tmp 26) (.tmp 34) 73 rfl (F + 1) 98 i0 (.agg z82.toArray) 65 72 Try.underlying73 hi98 hz0 hz1 hz2 rfl (by decide) vl (flt kx (r.sure.take j)).length (qcells (flt kx (r.sure.take j))) rfl (ownsRow_below HO2.out (more (Below.refl _ _) _)) ⟨W2.heap.size, 0, none⟩ 1 1 (wcells (yk, yz)) rfl ?d0 ?d1 (wcells_one _) ?d2 ?d3 ?d4 ?_
             case d0 => rw [HY65.out]
             case d1 => exact World.news_of_block (Blk.new W2 (.cells (wcells (yk, yz)).toArray 98))
             case d2 => have := HFL.out; unfold maxLen; omega
             case d3 => have := HFL.out; omega
             case d4 => have := HN2.out; simp; omega
             intro vl' w9 ho9 hg9 hv9
             have HO9 := Kp.mk ho9
             have HB9 : Kp (Below (F + 1) W1 w9) := ⟨(HB2.out.alloc (by have := HN2.out; omega) _).grown hg9 (by have := HN2.out; simp; omega) (fun q e => (HO2.out.lt q e).1)⟩
             clear ho9 hg9 hv9))
        clear c1'
        go_roundw
        case rel => exact ⟨j + 1, by omega, by first | rfl | go_num, HB9.out, by rw [HS.out, if_neg HK.out, List.length_append, List.length_singleton, qcells_add]; exact HO9.out⟩
        case measure => simp [intOf] <;> omega
    · obtain rfl : j = ln := by omega
      have HE : Kp (flt kx (r.sure.take j) = flt kx r.sure) := ⟨by rw [List.take_of_length_le (by rw [← HLN.out]; exact Nat.le_refl _)]⟩
      rw [HE.out] at HO
      have HFL : Kp ((flt kx r.sure).length + 1 ≤ 1000000) := ⟨by have := flt_len kx r.sure; have := HSL.out; omega⟩
      have f1 := HR.out.cells.2 1
      clear cF
      have hMw : M < wr.heap.size := HR.out.lt
      go_wp2_with (first
        | (refine wpList_load_row rfl 98 (.tmp 3) rfl F rfl 98 _ (0, 0) _ HBk.out Try.underlying98 rfl (by rw [List.size_toArray, H65.out]; exact info98s) ?_)
        | (refine wpList_buildSlice_one rfl 73 1 (.tmp 38) rfl (.agg (wcells (kx, zx)).toArray) rfl (.slice (some ⟨wr.heap.size, 0, none⟩) 1 1) (wr.alloc (.cells (wcells (kx, zx)).toArray 98)) (build73 HZ.out wr) ?_)
        | (refine wpList_append_own2 rfl (.tmp 37) (.tmp 39) 73 rfl (F + 1) 98 i0 (.agg z82.toArray) 65 72 Try.underlying73 hi98 hz0 hz1 hz2 rfl (by decide) vl (flt kx r.sure).length (qcells (flt kx r.sure)) rfl (ownsRow_below HO.out (more (Below.refl _ _) _)) ⟨wr.heap.size, 0, none⟩ 1 1 (wcells (kx, zx)) rfl ?d0 ?d1 (wcells_one _) ?d2 ?d3 ?d4 ?_
           case d0 => rw [H65.out]
           case d1 => exact World.news_of_block (Blk.new wr (.cells (wcells (kx, zx)).toArray 98))
           case d2 => have := HFL.out; unfold maxLen; omega
           case d3 => have := HFL.out; omega
           case d4 => have := HN.out; simp; omega
           intro vl' w9 ho9 hg9 hv9
           obtain ⟨lb, lc, rfl⟩ := ownsRow_succ ho9
           have HO9 := Kp.mk ho9
           have HB9 : Kp (Below (F + 1) W1 w9) := ⟨(HB.out.alloc (by have := HN.out; omega) _).grown hg9 (by have := HN.out; simp; omega) (fun q e => (HO.out.lt q e).1)⟩
           have HBF9 : Kp (Below F w w9) := ⟨K2.out.trans (HB9.out.mono (by omega))⟩
           have HR9 : Kp (RlIs w9 M (.slice a j c) v2 r) := ⟨H.out.keep (by rw [← HF.out]; exact HBF9.out)⟩
           have c9 := HR9.out.cells.1.2.1
           have f9 := HR9.out.cells.2 1
           clear ho9 hg9 hv9 c1 f1))
      have HST : Kp (RStep M (.slice a j c) v2 (.slice (some ⟨lb, 0, none⟩) ((flt kx r.sure).length + 1) lc) v2 { r with sure := rputL r.sure (kx, zx) } w (w9.setCell ⟨M, 1, none⟩ (.slice (some ⟨lb, 0, none⟩) ((flt kx r.sure).length + 1) lc))) := ⟨by
        obtain ⟨v', hv'⟩ : ∃ v', v' = Value.slice (some ⟨lb, 0, none⟩) ((flt kx r.sure).length + 1) lc := ⟨_, rfl⟩
        have HO9' := HO9.out
        rw [← hv'] at HO9' ⊢
        have hT : Turn M (rObj v' v2 { r with sure := rputL r.sure (kx, zx) }) w9 (w9.setCell ⟨M, 1, none⟩ v') := ((Turn.same HR9.out.b).set 1 _).as rfl
        have hMF := HMF.out
        have e1 : (rputL r.sure (kx, zx)).length = (flt kx r.sure).length + 1 := by simp [rputL]
        have e2 : qcells (rputL r.sure (kx, zx)) = qcells (flt kx r.sure) ++ wcells (kx, zx) := by rw [rputL, qcells_add]
        have o1 : (w9.setCell ⟨M, 1, none⟩ v').ownsRow (F + 1) 98 65 v' (rputL r.sure (kx, zx)).length (qcells (rputL r.sure (kx, zx))) := by
          rw [e1, e2]; exact ownsRow_turn HO9' hT (by omega)
        have hlt := HR9.out.o2
        refine ⟨hT.os.trans HBF9.out.os, hT.tape.trans HBF9.out.tape, hT.output.trans HBF9.out.output, Nat.le_trans (by rw [← HF.out]; have := HBF9.out.size; rw [← HF.out] at this; exact this) hT.size, ⟨hT.blk, ownsRow_lower o1 (by omega), ownsRow_turn HR9.out.o2 hT (by omega), fun q e1 e2 => ?_, ⟨HR9.out.k.n1, HR9.out.k.q1, fun x hx => ?_, HR9.out.k.st, HR9.out.k.fr, HR9.out.k.ql, by rw [e1]; exact HFL.out⟩⟩, fun q hq n1 _ _ => ?_, fun q hq => ?_⟩
        · have h1 := (o1.lt q e1).1
          have h2 := (H.out.o2.lt q e2).2
          rw [← HF.out] at h2
          omega
        · rcases List.mem_append.1 hx with hx | hx
          · exact HS1.out x (flt_mem hx)
          · rw [List.mem_singleton.1 hx]; exact ⟨HZ.out, HZb.out⟩
        · have hqF : q < F := by rw [HF.out]; exact hq
          exact (hT.other q (by have := HBF9.out.size; rw [← HF.out] at this; omega) n1).trans (HBF9.out.block q hqF)
        · rcases hq with e | e
          · exact .inr (by rw [← HF.out]; have := (o1.lt q e).1; omega)
          · exact .inl (.inr e)⟩
      go_wp2_with fail
      go_end0
      exact ⟨⟨_, rfl⟩, _, HST.out⟩
end Go.Proofs.Ytgikedbnnlckjaa
