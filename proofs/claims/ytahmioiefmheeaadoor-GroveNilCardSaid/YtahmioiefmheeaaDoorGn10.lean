/-
  grove: what the tree over one leaf tells; the law's example.
  What the listed variable holds gives the walks: the standard's constants. The door's own heap meets the condition.
-/
import Derived.Test.YtahmioiefmheeaaDoorGn09
import Derived.Test.YtahmioiefmheeaaDoorRows
import Derived.ProofKit
import Derived.LaidMore
import Derived.OpenShut
import Derived.Stop.Joined
namespace Go.Proofs.YtahmioiefmheeaaDoor
open Go.RowKit

theorem One.cells {w : World} {G R L c : Nat} {s : List Int} (h : One w G R L c s) : w.cell? ⟨G, 0, none⟩ = some (.slice (some ⟨R, 0, none⟩) 1 1) ∧ w.cell? ⟨R, 0, none⟩ = some (.slice (some ⟨L, 0, none⟩) 1 c) :=
  ⟨h.g.cell 0, h.r.cell 0⟩
set_option maxRecDepth 100000 in
set_option maxHeartbeats 1000000 in
theorem has_one (G R L c : Nat) (s : List Int) (w : World) (h : One w G R L c s) : Calls Tryd.prog 103 #[.pointer (some ⟨G, 0, none⟩), .int .i64 0] w fun r w' => r = .returned (.bool true) ∧ w' = w := by
  obtain ⟨c1, c2⟩ := h.cells
  clear h
  go_enter Tryd.func103, Tryd.ntmps103
  go_wp2_with fail
  go_ret
  exact ⟨rfl, rfl⟩
set_option maxRecDepth 100000 in
set_option maxHeartbeats 1000000 in
theorem path_one (G R L c : Nat) (s : List Int) (w : World) (h : One w G R L c s) : Calls Tryd.prog 66 #[.pointer (some ⟨G, 0, none⟩), .int .i64 0] w fun r w' => r = .returned (.tuple #[.slice none 0 0, .int .i64 0]) ∧ Below w.heap.size w w' := by
  have HO := Kp.mk h
  clear h
  go_enter Tryd.func66, Tryd.ntmps66
  go_wp2_with fail
  refine (has_one G R L c s w HO.out).mono ?_
  rintro r w1 ⟨rfl, rfl⟩
  obtain ⟨c1, c2⟩ := HO.out.cells
  go_wp2_with fail
  go_quiet (fail)
  have HB : Kp (Below w1.heap.size w1 (w1.drewN nq)) := ⟨below_drewN (Below.refl _ _) nq⟩
  clear c1 c2
  generalize w1.drewN nq = w2 at *
  go_wp2_with fail
  go_loopw [1, 6, 27] (fun _ p q wr => q = .int .i64 0 ∧ p = .slice none 0 0 ∧ Kp (Below w1.heap.size w1 wr)) (fun _ _ _ _ => 0)
  case atStart => exact ⟨rfl, rfl, HB⟩
  case round =>
    obtain ⟨rfl, rfl, F2⟩ := hrel
    go_wp2_with fail
    go_ret2
    exact ⟨rfl, F2.out⟩
theorem exec_load_mid33 {o : Oper} {a : Act} {w : World} {x : Operand} {b : Nat} {s : List Int} (ho : o.op = .load 33 x) (hx : a.eval x = .pointer (some ⟨b, 0, none⟩)) (hc : w.rangeAt b 0 (kv .u8 s)) (hs : s.length = 16) :
    (execOp a.eval o).run Tryd.prog w = .ok (.value (dgV s)) w := by
  unfold execOp
  simp only [ho, hx, Instr.loadAt, Instr.sureAddr, Sem.run_bind, Sem.run_pure, Result.andThen_ok, run_loadVar_mid w b 0 33 (kv .u8 s) _ hc Tryd.underlying33 rfl (by rw [info33, List.length_map, hs])]
set_option maxRecDepth 100000 in
set_option maxHeartbeats 1000000 in
theorem root_one (G R L c : Nat) (s : List Int) (w : World) (h : One w G R L c s) (hs : s.length = 16) : Calls Tryd.prog 63 #[.pointer (some ⟨G, 0, none⟩)] w fun r w' => r = .returned (dgV s) ∧ Below w.heap.size w w' := by
  have HO := Kp.mk h
  have HS := Kp.mk hs
  clear h hs
  go_enter Tryd.func63, Tryd.ntmps63
  go_wp2_with fail
  refine calls_world (fun W => Row W w.heap.size 33 .u8 (fill 16 []) ∧ One W G R L c s ∧ Below w.heap.size w W) ⟨Blk.newAt (w := w) z50 rfl, HO.out.keep (more (Below.refl _ _) z50), more (Below.refl _ _) z50⟩ ?_
  rintro w1 ⟨h1, h2, h3⟩
  refine (has_one G R L c s w1 h2).mono ?_
  rintro r w2 ⟨rfl, rfl⟩
  have G1 := Kp.mk h1
  have G2 := Kp.mk h2
  have G3 := Kp.mk h3
  clear h1 h2 h3
  go_wp2_with fail
  refine wp_region_pred (fun w' => Row w' w.heap.size 33 .u8 (fill 16 []) ∧ One w' G R L c s ∧ Below w.heap.size w w') [0, 1, 2, 3, 4, 5, 6, 7, 8, 9, 10, 11, 12, 13] [14]
    (fun i _ v => match i with
      | 0 => v = .pointer (some ⟨G, 0, none⟩)
      | 1 => v = .pointer (some ⟨G, 0, none⟩)
      | 2 => v = .pointer (some ⟨G, 0, none⟩)
      | 3 => v = .slice (some ⟨R, 0, none⟩) 1 1
      | 4 => v = .pointer (some ⟨G, 0, none⟩)
      | 5 => v = .pointer (some ⟨G, 0, none⟩)
      | 6 => v = .pointer (some ⟨G, 0, none⟩)
      | 7 => v = .slice (some ⟨R, 0, none⟩) 1 1
      | 8 => v = .int .i64 1
      | 9 => v = .int .i64 0
      | 10 => v = .pointer (some ⟨R, 0, none⟩)
      | 11 => v = .slice (some ⟨L, 0, none⟩) 1 c
      | 12 => v = .pointer (some ⟨L, 0, none⟩)
      | _ => v = dgV s)
    [[], [(0, some 7)], [(1, some 8)], [(2, some 9)], [], [(4, some 11)], [(5, some 12)], [(6, some 13)], [(7, some 14)], [(8, some 15)], [(3, some 10), (9, some 16)], [(10, some 17)], [(11, some 18)], [(12, some 19)]]
    [(0, some 7), (1, some 8), (2, some 9), (3, some 10), (4, some 11), (5, some 12), (6, some 13), (7, some 14), (8, some 15), (9, some 16), (10, some 17), (11, some 18), (12, some 19), (13, some 20)]
    (by kernel_rfl) (by kernel_rfl) (by kernel_rfl) (by kernel_rfl) (by kernel_rfl) (by kernel_rfl) (by decide) (by decide) (fun w1 w2 h hb => ⟨h.1.keep hb, h.2.1.keep hb, h.2.2.trans (hb.mono (Nat.le_of_lt h.1.lt))⟩) (fun _ _ _ _ h _ => h) ⟨G1.out.drew, G2.out.keep ⟨rfl, rfl, rfl, Nat.le_refl _, fun _ _ => rfl⟩, G3.out.drew⟩ ?_ ?_
  · refine ⟨fun γ wx hS h => ⟨_, rfl, Or.inl ⟨rfl, ?_⟩⟩, fun γ wx hS h => ⟨_, rfl, Or.inl ⟨rfl, ?_⟩⟩, fun γ wx hS h => ⟨_, rfl, Or.inl ⟨rfl, ?_⟩⟩, fun γ wx hS h => ⟨_, rfl, Or.inl ⟨rfl, ?_⟩⟩, fun γ wx hS h => ⟨_, rfl, Or.inl ⟨rfl, ?_⟩⟩, fun γ wx hS h => ⟨_, rfl, Or.inl ⟨rfl, ?_⟩⟩, fun γ wx hS h => ⟨_, rfl, Or.inl ⟨rfl, ?_⟩⟩, fun γ wx hS h => ⟨_, rfl, Or.inl ⟨rfl, ?_⟩⟩, fun γ wx hS h => ⟨_, rfl, Or.inl ⟨rfl, ?_⟩⟩, fun γ wx hS h => ⟨_, rfl, Or.inl ⟨rfl, ?_⟩⟩, fun γ wx hS h => ⟨_, rfl, Or.inl ⟨rfl, ?_⟩⟩, fun γ wx hS h => ⟨_, rfl, Or.inl ⟨rfl, ?_⟩⟩, fun γ wx hS h => ⟨_, rfl, Or.inl ⟨rfl, ?_⟩⟩, fun γ wx hS h => ⟨_, rfl, Or.inl ⟨rfl, ?_⟩⟩, trivial⟩
    · exact predRun_value (v := .pointer (some ⟨G, 0, none⟩)) (by simp only [putE]; first | rfl | (go_simp; done) | (go_simp; rfl)) rfl
    · have e0 : γ 0 = .pointer (some ⟨G, 0, none⟩) := h
      exact predRun_value (v := .pointer (some ⟨G, 0, none⟩)) (by simp only [putE, e0]; first | rfl | (go_simp; done) | (go_simp; rfl)) rfl
    · have e1 : γ 1 = .pointer (some ⟨G, 0, none⟩) := h
      exact predRun_value (v := .pointer (some ⟨G, 0, none⟩)) (by simp only [putE, e1]; first | rfl | (go_simp; done) | (go_simp; rfl)) rfl
    · have e2 : γ 2 = .pointer (some ⟨G, 0, none⟩) := h
      obtain ⟨c1, c2⟩ := hS.2.1.cells
      exact predRun_value (v := .slice (some ⟨R, 0, none⟩) 1 1) (by simp only [putE, e2]; first | rfl | (go_simp; done) | (go_simp; rfl)) rfl
    · exact predRun_value (v := .pointer (some ⟨G, 0, none⟩)) (by simp only [putE]; first | rfl | (go_simp; done) | (go_simp; rfl)) rfl
    · have e4 : γ 4 = .pointer (some ⟨G, 0, none⟩) := h
      exact predRun_value (v := .pointer (some ⟨G, 0, none⟩)) (by simp only [putE, e4]; first | rfl | (go_simp; done) | (go_simp; rfl)) rfl
    · have e5 : γ 5 = .pointer (some ⟨G, 0, none⟩) := h
      exact predRun_value (v := .pointer (some ⟨G, 0, none⟩)) (by simp only [putE, e5]; first | rfl | (go_simp; done) | (go_simp; rfl)) rfl
    · have e6 : γ 6 = .pointer (some ⟨G, 0, none⟩) := h
      obtain ⟨c1, c2⟩ := hS.2.1.cells
      exact predRun_value (v := .slice (some ⟨R, 0, none⟩) 1 1) (by simp only [putE, e6]; first | rfl | (go_simp; done) | (go_simp; rfl)) rfl
    · have e7 : γ 7 = .slice (some ⟨R, 0, none⟩) 1 1 := h
      exact predRun_value (v := .int .i64 1) (by simp only [putE, e7]; first | rfl | (go_simp; done) | (go_simp; rfl)) rfl
    · have e8 : γ 8 = .int .i64 1 := h
      exact predRun_value (v := .int .i64 0) (by simp only [putE, e8]; first | rfl | (go_simp; done) | (go_simp; rfl)) rfl
    · obtain ⟨h3, h9⟩ := h
      have e3 : γ 3 = .slice (some ⟨R, 0, none⟩) 1 1 := h3
      have e9 : γ 9 = .int .i64 0 := h9
      exact predRun_value (v := .pointer (some ⟨R, 0, none⟩)) (by simp only [putE, e3, e9]; first | rfl | (go_simp; done) | (go_simp; rfl)) rfl
    · have e10 : γ 10 = .pointer (some ⟨R, 0, none⟩) := h
      obtain ⟨c1, c2⟩ := hS.2.1.cells
      exact predRun_value (v := .slice (some ⟨L, 0, none⟩) 1 c) (by simp only [putE, e10]; first | rfl | (go_simp; done) | (go_simp; rfl)) rfl
    · have e11 : γ 11 = .slice (some ⟨L, 0, none⟩) 1 c := h
      exact predRun_value (v := .pointer (some ⟨L, 0, none⟩)) (by simp only [putE, e11]; first | rfl | (go_simp; done) | (go_simp; rfl)) rfl
    · have e12 : γ 12 = .pointer (some ⟨L, 0, none⟩) := h
      exact predRun_value (exec_load_mid33 (x := .tmp 19) rfl (by exact e12) hS.2.1.l HS.out) rfl
  · intro γ w9 hS h
    have e13 : γ 13 = dgV s := h.2.2.2.2.2.2.2.2.2.2.2.2.2
    have HC := Kp.mk (cells50 HS.out)
    have HZ := Kp.mk (size50 HS.out)
    have HF := Kp.mk (hS.1.setRow s)
    have HBf := Kp.mk (Below.row hS.2.2 (g := w.heap.size) (Nat.le_refl _) (kv .u8 s).toArray)
    simp only [putE, Act.put, List.setIfInBounds_toArray, List.set_cons_zero, List.set_cons_succ]
    rw [e13]
    refine wpOps_step rfl rfl ?_
    refine wp_store_row 33 (.tmp 2) (.tmp 20) rfl w.heap.size (kv .u8 s).toArray rfl rfl 33 _ hS.1 HC.out HZ.out (kv_all _ _) ?_
    refine wpOps_done ?_
    clear h hS e13
    go_wp2_with fail
    refine bodyPost_ret (v := dgV s) ?_ rfl ⟨rfl, HBf.out⟩
    exact results_cell_row rfl _ _ w.heap.size 33 _ (0, 0) _ rfl HF.out Tryd.underlying33 rfl HC.out
/-- Two results: an array in a cell, and a slot. -/
theorem results_row_slot {P : Program} {fn : Func} {p q : Tmp} {ty : TypeId} (h : fn.results = #[.cell p ty, .tmp q]) (tmps : Array Value) (w : World) (g : Nat) (t : TypeId) (cs : Array Value) (fr : Nat × Nat) (d : TypeDesc) (u : Value)
    (hp : tmps.getD p undef = .pointer (some ⟨g, 0, none⟩)) (hq : tmps.getD q undef = u) (hg : w.heap[g]? = some (.cells cs t fr))
    (hu : P.underlying ty = some d) (hd : (match d with | .struct _ | .array _ _ => true | _ => false) = true) (hi : (P.info? ty).map (·.size) = some cs.size) :
    (results fn tmps).run P w = .ok (.tuple #[.agg cs, u]) w := by
  have hp' : tmps[p]?.getD undef = .pointer (some ⟨g, 0, none⟩) := by simpa using hp
  have hq' : tmps[q]?.getD undef = u := by simpa using hq
  simp [results, h, hp', hq', asAddr, run_loadVar_row w g t ty cs fr d hg hu hd hi]
set_option maxRecDepth 100000 in
set_option maxHeartbeats 1000000 in
theorem leaf_nil (i : Int) (w : World) : Calls Tryd.prog 65 #[.pointer none, .int .i64 i] w fun r w' => r = .returned (.tuple #[dgV zeroS, .int .i64 2]) ∧ Below w.heap.size w w' := by
  go_enter Tryd.func65, Tryd.ntmps65
  have HR : Kp (Row (w.alloc z50) w.heap.size 33 .u8 zeroS) := ⟨Blk.newAt (w := w) z50 rfl⟩
  have HF := Kp.mk (HR.out.setRow zeroS)
  have HBf := Kp.mk (Below.row (more (Below.refl _ _) z50) (g := w.heap.size) (Nat.le_refl _) (kv .u8 zeroS).toArray)
  go_wp2_with (refine wpList_store_row rfl 33 (.tmp 4) (.tmp 8) rfl w.heap.size (kv .u8 zeroS).toArray rfl rfl 33 _ HR.out (cells50 (l := zeroS) rfl) rfl (kv_all _ _) ?_)
  refine bodyPost_ret (v := .tuple #[dgV zeroS, .int .i64 2]) ?_ rfl ⟨rfl, HBf.out⟩
  exact results_row_slot rfl _ _ w.heap.size 33 _ (0, 0) _ _ rfl rfl HF.out Tryd.underlying33 rfl (cells50 (l := zeroS) rfl)
abbrev s7 : List Int := [7, 0, 0, 0, 0, 0, 0, 0, 0, 0, 0, 0, 0, 0, 0, 0]
abbrev s7V : Value := .agg #[.int .u8 7, .int .u8 0, .int .u8 0, .int .u8 0, .int .u8 0, .int .u8 0, .int .u8 0, .int .u8 0, .int .u8 0, .int .u8 0, .int .u8 0, .int .u8 0, .int .u8 0, .int .u8 0, .int .u8 0, .int .u8 0]
abbrev z0V : Value := .agg #[.int .u8 0, .int .u8 0, .int .u8 0, .int .u8 0, .int .u8 0, .int .u8 0, .int .u8 0, .int .u8 0, .int .u8 0, .int .u8 0, .int .u8 0, .int .u8 0, .int .u8 0, .int .u8 0, .int .u8 0, .int .u8 0]
theorem s7_bytes : Bytes s7 := by intro x hx; simp [s7] at hx; omega
theorem z0_bytes : Bytes zeroS := by intro x hx; have := List.eq_of_mem_replicate hx; omega
theorem eq_s7 (w : World) : (binOp .eql 33 s7V s7V).run Tryd.prog w = .ok (.bool true) w := eql50 s7_bytes rfl w
theorem eq_z0 (w : World) : (binOp .eql 33 z0V z0V).run Tryd.prog w = .ok (.bool true) w := eql50 z0_bytes rfl w
theorem eqg_s7 (x y : Operand) (w : World) : (eqGuard .eql 33 x y s7V s7V).run Tryd.prog w = .ok () w := by kernel_rfl
theorem eqg_z0 (x y : Operand) (w : World) : (eqGuard .eql 33 x y z0V z0V).run Tryd.prog w = .ok () w := by kernel_rfl
set_option maxRecDepth 100000 in
set_option maxHeartbeats 1000000 in
theorem awake7 (w : World) : Calls Tryd.prog 62 #[] w fun r w' => r = .returned (.bool true) ∧ Below w.heap.size w w' := by
  go_enter Tryd.func62, Tryd.ntmps62
  go_wp2_with fail
  refine calls_world (fun W => Row W w.heap.size 33 .u8 s7 ∧ Below w.heap.size w W) ⟨Blk.newAt (w := w) _ rfl, more (Below.refl _ _) _⟩ ?_
  rintro w1 ⟨h1, h2⟩
  have B1 := Kp.mk h2
  refine (new_one 1 2 w.heap.size s7 w1 h1 rfl).mono ?_
  rintro r w2 ⟨G, R, L, c, rfl, h3, h4⟩
  have O2 := Kp.mk h3
  have B2 : Kp (Below w.heap.size w w2) := ⟨B1.out.trans (h4.mono B1.out.size)⟩
  clear h1 h2 h3 h4
  have hqp : ∀ w, (binOp .eql 85 (.pointer (some ⟨G, 0, none⟩)) (.pointer none)).run Tryd.prog w = .ok (.bool false) w := fun w => rfl
  go_wp2_with fail
  clear hqp
  refine (path_one G R L c s7 w2 O2.out).mono ?_
  rintro r w3 ⟨rfl, h5⟩
  have O3 := Kp.mk (O2.out.keep h5)
  have B3 : Kp (Below w.heap.size w w3) := ⟨B2.out.trans (h5.mono B2.out.size)⟩
  clear h5
  go_wp2_with fail
  refine (root_one G R L c s7 w3 O3.out rfl).mono ?_
  rintro r w4 ⟨rfl, h6⟩
  have B4 : Kp (Below w.heap.size w w4) := ⟨B3.out.trans (h6.mono B3.out.size)⟩
  clear h6
  rw [show dgV s7 = s7V from rfl]
  have hq := eq_s7
  have hg := eqg_s7
  go_wp2_with fail
  clear hq hg
  refine (height_any 6 w4).mono ?_
  rintro r w5 ⟨hh, rfl, rfl, h7⟩
  have h8 : hh = -1 := by
    rcases h7 with ⟨i, hi, e1, e2⟩ | ⟨_, e⟩
    · exfalso
      rcases (show i = 0 ∨ i = 1 ∨ i = 2 ∨ i = 3 ∨ i = 4 ∨ i = 5 ∨ i = 6 by omega) with rfl | rfl | rfl | rfl | rfl | rfl | rfl <;> revert e1 <;> decide
    · exact e
  subst h8
  clear h7
  go_wp2_with fail
  go_ret
  exact ⟨rfl, B4.out⟩
set_option maxRecDepth 100000 in
set_option maxHeartbeats 1000000 in
theorem groveNil_walk (x0 : Int) (w : World) (_w0 : (Lit.int .i64 x0).wf = true) (_hk : KonIs w) : Calls Tryd.prog 17 #[.int .i64 x0] w fun r w' => r = .returned (.bool true) ∧ Below w.heap.size w w' := by
  clear _w0 _hk
  go_enter Tryd.func17, Tryd.ntmps17
  go_wp2_with fail
  refine (leaf_nil x0 w).mono ?_
  rintro r w1 ⟨rfl, h1⟩
  have B1 := Kp.mk h1
  clear h1
  rw [show dgV zeroS = z0V from rfl]
  have HR : Kp (Row (w1.alloc z50) w1.heap.size 33 .u8 zeroS) := ⟨Blk.newAt (w := w1) z50 rfl⟩
  have HB2 : Kp (Below w.heap.size w ((w1.alloc z50).setRow w1.heap.size (kv .u8 zeroS).toArray)) := ⟨Below.row (more B1.out z50) B1.out.size _⟩
  go_wp2_with (refine wpList_store_row rfl 33 (.tmp 4) (.tmp 12) rfl w1.heap.size (kv .u8 zeroS).toArray rfl rfl 33 _ HR.out (cells50 (l := zeroS) rfl) rfl (kv_all _ _) ?_; refine wpl_world (fun W => Below w.heap.size w W) HB2.out ?_; rintro w2 q2; have B2 := Kp.mk q2; clear q2 HR HB2)
  refine (path_nil x0 _).mono ?_
  rintro r w3 ⟨rfl, rfl⟩
  go_wp2_with fail
  refine (awake7 _).mono ?_
  rintro r w4 ⟨rfl, h4⟩
  have B4 : Kp (Below w.heap.size w w4) := ⟨B2.out.trans (h4.mono B2.out.size)⟩
  clear h4
  go_wp2_with fail
  refine (root_nil w4).mono ?_
  rintro r w5 ⟨rfl, h5⟩
  have B5 : Kp (Below w.heap.size w w5) := ⟨B4.out.trans (h5.mono B4.out.size)⟩
  clear h5
  rw [show dgV zeroS = z0V from rfl]
  have hq := eq_z0
  have hg := eqg_z0
  go_wp2_with fail
  go_ret
  exact ⟨rfl, B5.out⟩
end Go.Proofs.YtahmioiefmheeaaDoor

namespace Go.Proofs.YtahmioiefmheeaaDoor
open Go.ChangeShapes Go.WideShapes Go.ChangeAt Go.RowKit

abbrev laidL : List (String × DataW Unit) := Rows.shaHexesRow.laid
theorem gKon : Tryd.prog.globalNamed ((Rows.shaHexesRow.laid.map (·.1)).headD default) = some 0 := by kernel_rfl
theorem tKon : (Tryd.prog.globals[0]?).map (·.type) = some 153 := by kernel_rfl
set_option maxRecDepth 100000 in
theorem laid_kon : (Rows.laid_fingerpost_sha_constants : DataW Unit) = .agg (kon.map fun k => .lit (.int .u32 k)) := rfl
set_option maxRecDepth 100000 in
theorem door_met (os : Os) (args : Array Value) : laidMetH Tryd.prog laidL ((World.doorLaid Tryd.prog 400 os).forCall (fun _ _ => 0) ⟨#[], args, []⟩).memory :=
  laidMetH_of_parts3 (fuel := 8) (laidMet_of_run' 8 (by kernel_rfl) (by kernel_rfl)) (by kernel_rfl) (by kernel_rfl)
theorem kon_of_laid {W : World} (h : laidMetH Tryd.prog laidL W) : KonIs W := by
  rw [MakeChecks.laidMetH_plain _ _ _ (by kernel_rfl)] at h
  obtain ⟨ps, ⟨g0, t0, cs0, f0, p0, q0, hg0, ht0, hv0, hd0, _, _⟩, _⟩ := h
  obtain rfl := Option.some.inj (gKon.symm.trans hg0)
  obtain rfl := Option.some.inj (tKon.symm.trans ht0)
  obtain ⟨xs, m, rfl, hx, hlen, hn, hel⟩ := DataW.trod_array Tryd.underlying153 hd0
  have c67 : Tryd.prog.cellsOf 46 = 1 := by kernel_rfl
  simp only [Prod.mk.injEq] at hx
  have hx1 := hx.1
  rw [laid_kon] at hx1
  simp only [DataW.agg.injEq] at hx1
  intro i hi
  have he := hel i hi
  rw [c67, Nat.mul_one] at he
  have hix : i < xs.length := by omega
  rw [List.getElem?_eq_getElem hix] at he
  obtain ⟨k, e1, e2, _⟩ := DataW.trod_int Tryd.underlying46 he
  have hk : (xs.map (·.1))[i]? = some (DataW.lit (.int .u32 k)) := by
    rw [List.getElem?_map, List.getElem?_eq_getElem hix]
    exact congrArg some (congrArg Prod.fst e2)
  rw [← hx1, List.getElem?_map, List.getElem?_eq_getElem (by rw [kon_len]; exact hi)] at hk
  simp at hk
  rw [World.var?_cell hg0 hv0 i]
  have h3 : cs0.toList[i]? = some (.int .u32 k) := by
    have h4 := congrArg (fun l : List Value => l[0]?) e1
    simp only [List.getElem?_take, List.getElem?_drop, Nat.lt_one_iff, if_true, Nat.add_zero] at h4
    simpa using h4
  rw [Array.getElem?_toList] at h3
  rw [h3, ← hk, List.getD_eq_getElem?_getD, List.getElem?_eq_getElem (by rw [kon_len]; exact hi)]
  rfl
end Go.Proofs.YtahmioiefmheeaaDoor
