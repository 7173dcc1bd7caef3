/-
  What is known, as the program's.
-/
import Derived.Test.YtfpmmbbbndobiaaRbW
namespace Go.Proofs.Ytfpmmbbbndobiaa
open Go.RowKit

theorem info44s (x : KV) : (Try.prog.info? 44).map (·.size) = some (knc x).toArray.size := by kernel_rfl
theorem info44l (x : KV) : (Try.prog.info? 44).map (·.size) = some (knc x).length := by kernel_rfl
theorem built51k (x : KV) : Try.prog.built 51 [(0, .int .i64 x.d), (1, keyV x.k), (2, .agg (elc x.el).toArray), (3, .slice x.pa x.pn x.pc)] = some (knc x).toArray := by kernel_rfl
theorem ret13 {tmps : Array Value} {w : World} {x : KV} {g : Nat} (h2 : tmps.getD 2 undef = .pointer (some ⟨g, 0, none⟩)) (hg : Blk w g x.obj) : (results Try.f13 tmps).run Try.prog w = .ok (.agg (knc x).toArray) w :=
  results_cell_row (P := Try.prog) Try.results13 tmps w g 51 (knc x).toArray (0, 0) _ h2 hg Try.underlying51 rfl (info51s x)
def KnPost (x : KV) (pq : List Int) (w : World) (r : Ending) (w' : World) : Prop :=
  ∃ a c, r = .returned (.agg (knc { x with pa := a, pc := c }).toArray) ∧ w'.ownsRow (w.heap.size + 2) 48 16 (.slice a x.pn c) x.pn (bv pq) ∧ Below w.heap.size w w'
set_option maxRecDepth 100000 in
set_option maxHeartbeats 6400000 in
theorem known_any (x : KV) (pq : List Int) (w : World) (hp : HoldsS w (.slice x.pa x.pn x.pc) x.pn pq) (hn : x.pn ≤ 1000000) : Calls Try.prog 13 #[.agg (knc x).toArray] w (KnPost x pq w) := by
  have hA := fun (w : World) => box_row (t := 44) (cs := knc x) (info44s x) w
  obtain ⟨A, hAe⟩ : ∃ A, A = w.heap.size := ⟨_, rfl⟩
  obtain ⟨R, hRe⟩ : ∃ R, R = A + 1 := ⟨_, rfl⟩
  obtain ⟨Z, hZ⟩ : ∃ Z, Z = knc (kn0 0 k0) := ⟨_, rfl⟩
  have HZS : Kp (Z.toArray.size = 21) := ⟨by rw [hZ]; rfl⟩
  have HINF : Kp ((Try.prog.info? 51).map (fun i => (i.zero, i.size)) = some (some (.agg Z.toArray), 21)) := ⟨by rw [hZ]; exact info51z⟩
  obtain ⟨W, hW⟩ : ∃ W, W = (w.alloc (.cells (knc x).toArray 44)).alloc (.cells Z.toArray 51) := ⟨_, rfl⟩
  have K0 : Kp (Blk W A (.cells (knc x).toArray 44) ∧ Blk W R (.cells Z.toArray 51) ∧ Below A w W ∧ HoldsS W (.slice x.pa x.pn x.pc) x.pn pq) := ⟨by
    have hb : Below w.heap.size w W := by rw [hW]; exact more (more (Below.refl _ _) _) _
    refine ⟨?_, ?_, by rw [hAe]; exact hb, hp.keep hb⟩
    · rw [hW]; exact (Blk.newAt _ hAe).old _
    · rw [hW]; exact Blk.newAt _ (by rw [hRe, hAe]; simp)⟩
  have HE := Kp.mk (And.intro hAe hRe)
  have HW := Kp.mk hW
  have HN := Kp.mk hn
  have HAR : Kp (A ≠ R) := ⟨by omega⟩
  have HLT : Kp (A < R) := ⟨by omega⟩
  clear hW hAe hRe hZ hp hn
  go_enter Try.func13, Try.ntmps13
  go_upto_region 1 with (first
    | (refine wpList_box_eq rfl 44 (.tmp 0) rfl _ rfl _ _ (hA _) ?_)
    | (refine wpList_alloc_row rfl 51 rfl Z.toArray 21 HINF.out ?_))
  rw [← HW.out, show (w.alloc (.cells (knc x).toArray 44)).heap.size = R by rw [HE.out.2, HE.out.1]; simp, ← HE.out.1]
  clear hA
  refine wp_region_held_drew (S := fun w' => Blk w' A (.cells (knc x).toArray 44)) (by kernel_rfl) (K0.out.1.draw) (fun hH => ?_)
  refine wpAnyH_take (i := 0) (oi := { dst := some 3, op := Go.Op.fieldAddr 44 (Go.Operand.tmp 1) 0, type := 0, pos := "law.go:19", after := #[], guard := none }) (v := .pointer (some ⟨A, 0, none⟩)) rfl (by kernel_rfl) (by kernel_rfl) (by kernel_rfl) (fun _ _ _ h => h) (Or.inl ⟨by rfl, fun w hS => by go_simp⟩) hH ?_
  simp only [Act.put, List.setIfInBounds_toArray, List.set_cons_zero, List.set_cons_succ]
  refine wpAnyH_take (i := 1) (oi := { dst := some 4, op := Go.Op.load 3 (Go.Operand.tmp 3), type := 3, pos := "law.go:19", after := #[{ on := 0, ground := Go.Ground.data }], guard := none }) (v := .int .i64 x.d) rfl (by kernel_rfl) (by kernel_rfl) (by kernel_rfl) (fun _ _ _ h => h) (Or.inl ⟨by rfl, fun w hS => by have c1 : w.cell? ⟨A, 0, none⟩ = some (.int .i64 x.d) := Blk.cell hS 0; go_simp⟩) hH ?_
  simp only [Act.put, List.setIfInBounds_toArray, List.set_cons_zero, List.set_cons_succ]
  refine wpAnyH_take (i := 2) (oi := { dst := some 5, op := Go.Op.fieldAddr 44 (Go.Operand.tmp 1) 1, type := 0, pos := "law.go:19", after := #[], guard := none }) (v := .pointer (some ⟨A, 1, none⟩)) rfl (by kernel_rfl) (by kernel_rfl) (by kernel_rfl) (fun _ _ _ h => h) (Or.inl ⟨by rfl, fun w hS => by go_simp⟩) hH ?_
  simp only [Act.put, List.setIfInBounds_toArray, List.set_cons_zero, List.set_cons_succ]
  refine wpAnyH_take (i := 3) (oi := { dst := some 6, op := Go.Op.load 40 (Go.Operand.tmp 5), type := 40, pos := "law.go:19", after := #[{ on := 2, ground := Go.Ground.data }], guard := none }) (v := keyV x.k) rfl (by kernel_rfl) (by kernel_rfl) (by kernel_rfl) (fun _ _ _ h => h) (Or.inl ⟨by rfl, fun w hS => exec_load_mid (cs := kc x.k) rfl rfl (Blk.range (cs := knc x) (o := 1) hS rfl) Try.underlying40 rfl (by kernel_rfl)⟩) hH ?_
  simp only [Act.put, List.setIfInBounds_toArray, List.set_cons_zero, List.set_cons_succ]
  refine wpAnyH_take (i := 5) (oi := { dst := some 8, op := Go.Op.fieldAddr 44 (Go.Operand.tmp 1) 2, type := 0, pos := "law.go:19", after := #[], guard := none }) (v := .pointer (some ⟨A, 4, none⟩)) rfl (by kernel_rfl) (by kernel_rfl) (by kernel_rfl) (fun _ _ _ h => h) (Or.inl ⟨by rfl, fun w hS => by go_simp⟩) hH ?_
  simp only [Act.put, List.setIfInBounds_toArray, List.set_cons_zero, List.set_cons_succ]
  refine wpAnyH_take (i := 6) (oi := { dst := some 9, op := Go.Op.load 41 (Go.Operand.tmp 8), type := 41, pos := "law.go:19", after := #[{ on := 5, ground := Go.Ground.data }], guard := none }) (v := .agg (elc x.el).toArray) rfl (by kernel_rfl) (by kernel_rfl) (by kernel_rfl) (fun _ _ _ h => h) (Or.inl ⟨by rfl, fun w hS => exec_load_mid (cs := elc x.el) rfl rfl (Blk.range (cs := knc x) (o := 4) hS rfl) Try.underlying41 rfl (by kernel_rfl)⟩) hH ?_
  simp only [Act.put, List.setIfInBounds_toArray, List.set_cons_zero, List.set_cons_succ]
  refine wpAnyH_take (i := 7) (oi := { dst := some 10, op := Go.Op.fieldAddr 44 (Go.Operand.tmp 1) 3, type := 0, pos := "law.go:19", after := #[], guard := none }) (v := .pointer (some ⟨A, 20, none⟩)) rfl (by kernel_rfl) (by kernel_rfl) (by kernel_rfl) (fun _ _ _ h => h) (Or.inl ⟨by rfl, fun w hS => by go_simp⟩) hH ?_
  simp only [Act.put, List.setIfInBounds_toArray, List.set_cons_zero, List.set_cons_succ]
  refine wpAnyH_take (i := 8) (oi := { dst := some 11, op := Go.Op.load 42 (Go.Operand.tmp 10), type := 42, pos := "law.go:19", after := #[{ on := 7, ground := Go.Ground.data }], guard := none }) (v := .slice x.pa x.pn x.pc) rfl (by kernel_rfl) (by kernel_rfl) (by kernel_rfl) (fun _ _ _ h => h) (Or.inl ⟨by rfl, fun w hS => by have c1 : w.cell? ⟨A, 20, none⟩ = some (.slice x.pa x.pn x.pc) := Blk.cell hS 20; go_simp⟩) hH ?_
  simp only [Act.put, List.setIfInBounds_toArray, List.set_cons_zero, List.set_cons_succ]
  refine wpAnyH_ready (rs := [4]) (by kernel_rfl) (by simp) ?_
  refine AllReadyH.cons (o := { dst := some 7, op := Go.Op.call { callee := Go.Callee.value (Go.Operand.func 15), args := #[Go.Operand.tmp 6], argTypes := #[40] }, type := 47, pos := "law.go:19", after := #[{ on := 3, ground := Go.Ground.data }], guard := none }) rfl (fun K hK => ?_) AllReadyH.nil
  go_simp
  refine (kto_any x.k _).mono ?_
  rintro r w1 ⟨rfl, hb⟩
  have K1 : Kp (Blk w1 A (.cells (knc x).toArray 44) ∧ Blk w1 R (.cells Z.toArray 51) ∧ Below A w w1 ∧ HoldsS w1 (.slice x.pa x.pn x.pc) x.pn pq) := ⟨K0.out.1.draw.keep hb, K0.out.2.1.draw.keep hb, K0.out.2.2.1.drew.trans (hb.mono (Nat.le_of_lt K0.out.1.draw.lt)), (K0.out.2.2.2.keep (Below.refl _ _).drew).keep hb⟩
  clear hb K0
  refine hK.out _ _ (K1.out.1) (fun hHn => ?_)
  clear hK K hH
  have hH := hHn
  clear hHn
  try simp only [Act.put, List.setIfInBounds_toArray, List.set_cons_zero, List.set_cons_succ]
  refine wpAnyH_ready (rs := [9]) (by kernel_rfl) (by simp) ?_
  refine AllReadyH.cons (o := { dst := some 12, op := Go.Op.call { callee := Go.Callee.value (Go.Operand.func 39), args := #[Go.Operand.tmp 11], argTypes := #[42] }, type := 49, pos := "law.go:19", after := #[{ on := 8, ground := Go.Ground.data }, { on := 4, ground := Go.Ground.chain }], guard := none }) rfl (fun K hK => ?_) AllReadyH.nil
  go_simp
  refine (sto_any _ x.pn pq _ K1.out.2.2.2 HN.out).mono ?_
  rintro r w2 ⟨v', rfl, hrow, hb⟩
  obtain ⟨ya, yc, rfl⟩ := row_is hrow
  obtain ⟨y, hy⟩ : ∃ y : KV, y = { x with pa := ya, pc := yc } := ⟨_, rfl⟩
  have HY := Kp.mk hy
  have K2 : Kp (Blk w2 A (.cells (knc x).toArray 44) ∧ Blk w2 R (.cells Z.toArray 51) ∧ Below A w w2 ∧ w2.ownsRow (R + 1) 48 16 (.slice ya x.pn yc) x.pn (bv pq)) := ⟨K1.out.1.keep hb, K1.out.2.1.keep hb, K1.out.2.2.1.trans (hb.mono (Nat.le_of_lt K1.out.1.lt)), ownsRow_down (by have := K1.out.2.1.lt; exact this) hrow⟩
  have HBD : Try.prog.built 51 [(0, .int .i64 x.d), (1, keyV x.k), (2, .agg (elc x.el).toArray), (3, .slice ya x.pn yc)] = some (knc y).toArray := by rw [hy]; exact built51k { x with pa := ya, pc := yc }
  clear hb hrow hy K1
  refine hK.out _ _ (K2.out.1) (fun hHn => ?_)
  clear hK K hH
  have hH := hHn
  clear hHn
  try simp only [Act.put, List.setIfInBounds_toArray, List.set_cons_zero, List.set_cons_succ]
  refine wpAnyH_take (i := 10) (oi := { dst := some 13, op := Go.Op.build 51 #[(0, Go.Operand.tmp 4), (1, Go.Operand.tmp 7), (2, Go.Operand.tmp 9), (3, Go.Operand.tmp 12)], type := 51, pos := "law.go:19", after := #[{ on := 1, ground := Go.Ground.data }, { on := 4, ground := Go.Ground.data }, { on := 6, ground := Go.Ground.data }, { on := 9, ground := Go.Ground.data }], guard := none }) (v := .agg (knc y).toArray) rfl (by kernel_rfl) (by kernel_rfl) (by kernel_rfl) (fun _ _ _ h => h) (Or.inl ⟨by rfl, fun w hS => exec_build 51 #[(0, .tmp 4), (1, .tmp 7), (2, .tmp 9), (3, .tmp 12)] rfl #[(0, .int .i64 x.d), (1, keyV x.k), (2, .agg (elc x.el).toArray), (3, .slice ya x.pn yc)] (by simp only [List.map_toArray, List.map_cons, List.map_nil]; rfl) _ HBD⟩) hH ?_
  simp only [Act.put, List.setIfInBounds_toArray, List.set_cons_zero, List.set_cons_succ]
  refine wpAnyH_ready (rs := [11]) (by kernel_rfl) (by simp) ?_
  refine AllReadyH.cons (o := { dst := none, op := Go.Op.store 51 (Go.Operand.tmp 2) (Go.Operand.tmp 13), type := 0, pos := "law.go:19", after := #[{ on := 10, ground := Go.Ground.data }, { on := 9, ground := Go.Ground.chain }, { on := 0, ground := Go.Ground.phase }, { on := 1, ground := Go.Ground.phase }, { on := 2, ground := Go.Ground.phase }, { on := 3, ground := Go.Ground.phase }, { on := 4, ground := Go.Ground.phase }, { on := 5, ground := Go.Ground.phase }, { on := 6, ground := Go.Ground.phase }, { on := 7, ground := Go.Ground.phase }, { on := 8, ground := Go.Ground.phase }, { on := 9, ground := Go.Ground.phase }, { on := 10, ground := Go.Ground.phase }], guard := none }) rfl (fun K hK => ?_) AllReadyH.nil
  refine wp_store_row 51 (.tmp 2) (.tmp 13) rfl R (knc y).toArray rfl rfl 51 _ K2.out.2.1 (info51s y) (by rw [HZS.out]; rfl) (all_oneCell_toArray (knc_one y)) ?_
  have K3 : Kp (Blk (w2.setRow R (knc y).toArray) A (.cells (knc x).toArray 44) ∧ Blk (w2.setRow R (knc y).toArray) R (.cells (knc y).toArray 51) ∧ Below A w (w2.setRow R (knc y).toArray) ∧ (w2.setRow R (knc y).toArray).ownsRow (R + 1) 48 16 (.slice ya x.pn yc) x.pn (bv pq)) := ⟨(setRow_other w2 R A _ HAR.out).trans K2.out.1, Blk.setRow K2.out.2.1 _, below_setRow K2.out.2.2.1 (Nat.le_of_lt HLT.out) _, ownsRow_setRow_low K2.out.2.2.2 (Nat.lt_succ_self R) _⟩
  refine hK.out _ _ (K3.out.1) (fun hHn => ?_)
  clear hK K hH
  have hH := hHn
  clear hHn
  try simp only [Act.put]
  clear hH
  refine wpAnyH_done (by kernel_rfl) ?_ _
  go_wp2_with fail
  exact bodyPost_ret (v := .agg (knc y).toArray) (ret13 rfl K3.out.2.1) rfl ⟨ya, yc, by rw [HY.out], by rw [← HE.out.1]; exact ownsRow_down (by have := HE.out.2; omega) K3.out.2.2.2, by rw [← HE.out.1]; exact K3.out.2.2.1⟩
end Go.Proofs.Ytfpmmbbbndobiaa
