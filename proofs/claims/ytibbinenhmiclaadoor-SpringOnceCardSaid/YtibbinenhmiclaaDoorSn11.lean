/-
  spring.reckon.
  spring.elements, and the function that it hands to Once.
-/
import Derived.Test.YtibbinenhmiclaaDoorSn10
import Derived.Deep.AppendLies
namespace Go.Proofs.YtibbinenhmiclaaDoor
open Go.RowKit

theorem sp_35 {m : SpM} (h : m.seed.length = 32) (C n : Nat) (g : GS) (mk : Int) : (spc m C n g mk)[35]? = some (.int .i64 m.d) := spc_tail h C n g mk 35 (by omega)
theorem sp_36 {m : SpM} (h : m.seed.length = 32) (C n : Nat) (g : GS) (mk : Int) : (spc m C n g mk)[36]? = some (.int .u32 m.e) := spc_tail h C n g mk 36 (by omega)
theorem sp_37 {m : SpM} (h : m.seed.length = 32) (C n : Nat) (g : GS) (mk : Int) : (spc m C n g mk)[37]? = some (.slice (some ⟨C, 0, none⟩) n n) := spc_tail h C n g mk 37 (by omega)
theorem sp_42 {m : SpM} (h : m.seed.length = 32) (C n : Nat) (g : GS) (mk : Int) : (spc m C n g mk)[42]? = some (.int .i64 mk) := spc_tail h C n g mk 42 (by omega)
theorem sp_1 (m : SpM) (C n : Nat) (g : GS) (mk : Int) : (spc m C n g mk)[1]? = some (.int .i64 m.st) := rfl
theorem sp_0 (m : SpM) (C n : Nat) (g : GS) (mk : Int) : (spc m C n g mk)[0]? = some (.int .i64 m.wd) := rfl
theorem ex_worldS {Q : Exit → Act → World → Prop} {x : Exit} {a : Act} {w : World} (F : World → Prop) (hF : F w) (h : ∀ w2, F w2 → Q x a w2) : Q x a w := h w hF
theorem predOp_val {P : Program} {ops : Array Oper} {o : Oper} {V : World → Value → Prop} {a : Act} {w : World} {v : Value} (hw : Region.wanted o (yielded ops a.tmps) = true) (he : (execOp a.eval o).run P w = .ok (.value v) w) (hv : V w v) : PredOp P ops o V a w := Or.inl ⟨hw, predRun_value he hv⟩
theorem wp_store_rowDS {P : Program} {o : Oper} {a : Act} {w : World} {K : Act → World → Prop} {Q : Exit → Act → World → Prop} (hd : o.dst = none) (ty : TypeId) (x y : Operand) (ho : o.op = .store ty x y)
    (g : Nat) (cells : Array Value) (hx : a.eval x = .pointer (some ⟨g, 0, none⟩)) (hy : a.eval y = .agg cells)
    (t : TypeId) (cs : Array Value) (hg : w.heap[g]? = some (.cells cs t (0, 0))) (hi : (P.info? ty).map (·.size) = some cells.size)
    (hs : cs.size = cells.size) (h1 : cells.all (·.oneCell') = true) (h : K a (w.setRow g cells)) : o.wp P a w K Q := by
  refine wp_store_row ty x y ho g cells hx hy t cs hg hi hs h1 ?_
  rw [hd]
  exact h
theorem Turn.ofRowS {w : World} {g : Nat} {old : Array Value} {t : TypeId} (h : Blk w g (.cells old t)) (cs : Array Value) : Turn g (.cells cs t) w (w.setRow g cs) := ⟨rfl, rfl, rfl, by simp [World.setRow], Blk.setRow h cs, fun k _ hne => setRow_other w g k cs hne⟩
theorem sp_range {w : World} {S C n : Nat} {m : SpM} {g : GS} {mk : Int} (h : m.seed.length = 32) (hb : Blk w S (.cells (spc m C n g mk).toArray 88)) : w.rangeAt S 3 (bv m.seed) := fun j v hv => by
  rw [hb.cell (3 + j), List.getElem?_toArray]
  have h1 := spc_seed h C n g mk
  have hj : j < 32 := by
    have := (List.getElem?_eq_some_iff.1 hv).1
    simp [h] at this
    exact this
  rw [← h1, List.getElem?_take, if_pos hj, List.getElem?_drop] at hv
  exact hv
theorem info70l {l : List Int} (h : l.length = 32) : (Tryd.prog.info? 70).map (·.size) = some (bv l).length := by rw [List.length_map, h]; kernel_rfl
theorem holdsQ3 {a b c : Int} (h : ∀ x ∈ [a, b, c], 0 ≤ x ∧ x < 18446744073709551616) (w : World) : HoldsQ (w.alloc (.cells #[.int .u64 a, .int .u64 b, .int .u64 c] 99)) (some ⟨w.heap.size, 0, none⟩) [a, b, c] := by
  refine ⟨h, fun i hi => ⟨w.heap.size, 0, rfl, by simp, ?_⟩⟩
  have hB : Blk (w.alloc (.cells #[.int .u64 a, .int .u64 b, .int .u64 c] 99)) w.heap.size (.cells #[.int .u64 a, .int .u64 b, .int .u64 c] 99) := Blk.new _ _
  rw [hB.cell (0 + i)]
  match i, hi with
  | 0, _ => rfl
  | 1, _ => rfl
  | 2, _ => rfl
  | i + 3, hi => simp at hi; omega
theorem drew_setRow (x : World) (g : Nat) (c : Array Value) : x.drew.setRow g c = (x.setRow g c).drew := rfl
theorem pl_one (a b c : Int) : (#[Value.int .i64 a, .int .u32 b, .int .u32 c] : Array Value).all (·.oneCell') = true := by simp [Value.oneCell']
theorem info118s : (Tryd.prog.info? 118).map (·.size) = some 3 := by kernel_rfl
theorem elR_bytes (m : SpM) (q : Int) : ∀ r, Bytes (elR m q r)
  | 0 => (digest_bytes _).take 16
  | _r + 1 => upS_bytes _ _ _ _ _ _
/-- reckon, on its way: the rung i's element lies in E, the row holds those of the rungs up to j. -/
structure RK (w : World) (A S E C n : Nat) (g : GS) (mk : Int) (m : SpM) (q : Int) (i j : Nat) (v : Value) (W : World) : Prop where
  k : KonIs W
  s : Blk W S (.cells (spc m C n g mk).toArray 88)
  p : Blk W A (.cells #[.int .i64 m.d, .int .u32 m.e, .int .u32 q] 118)
  e : Blk W E (.cells (bv (elR m q i)).toArray 43)
  v : W.ownsRow (E + 1) 43 16 v (j + 1) (bv (elsL m q (j + 1)))
  below : Below A w W
  ae : A < E
  sa : S < A
theorem RK.more {w W W' : World} {A S E C n : Nat} {g : GS} {mk : Int} {m : SpM} {q : Int} {i j : Nat} {v : Value} (h : RK w A S E C n g mk m q i j v W) (hb : Below W.heap.size W W') : RK w A S E C n g mk m q i j v W' :=
  ⟨h.k.keep hb, h.s.keep hb, h.p.keep hb, h.e.keep hb, ownsRow_below h.v hb, h.below.trans (hb.mono (Nat.le_of_lt h.p.lt)), h.ae, h.sa⟩
theorem RK.first {w W : World} {A S E C n : Nat} {g : GS} {mk : Int} {m : SpM} {q : Int} (h1 : KonIs W) (h2 : Blk W S (.cells (spc m C n g mk).toArray 88)) (h3 : Blk W A (.cells #[.int .i64 m.d, .int .u32 m.e, .int .u32 q] 118)) (h4 : Below A w W) (h5 : A < E) (h6 : E < W.heap.size)
    (h7 : Blk W E (.cells (bv (elR m q 0)).toArray 43)) (h8 : S < A) : RK w A S E C n g mk m q 0 0 (.slice (some ⟨W.heap.size, 0, none⟩) 1 1) (W.alloc (.cells (bv (elR m q 0)).toArray 43)) := by
  have hm : Below W.heap.size W (W.alloc (.cells (bv (elR m q 0)).toArray 43)) := Go.Proofs.YtibbinenhmiclaaDoor.more (Below.refl _ _) _
  refine ⟨h1.keep hm, h2.keep hm, h3.keep hm, h7.keep hm, ⟨by simp [elsL, elR_len], .inr ⟨W.heap.size, 1, (bv (elR m q 0)).toArray, rfl, by omega, Blk.new _ _, Nat.le_refl _, by unfold maxLen; omega, by simp [elR_len], ?_⟩⟩, h4.trans (hm.mono (by omega)), h5, h8⟩
  simp [elsL]
  rw [List.take_of_length_le (by simp [elR_len])]
theorem RK.turn {w W : World} {A S E C n : Nat} {g : GS} {mk : Int} {m : SpM} {q : Int} {i j : Nat} {v : Value} (h : RK w A S E C n g mk m q i j v W) : RK w A S E C n g mk m q (i + 1) j v (W.setRow E (bv (elR m q (i + 1))).toArray) := by
  have hT := Turn.ofRowS h.e (bv (elR m q (i + 1))).toArray
  have := h.ae
  have := h.sa
  exact ⟨h.k.turn hT (by omega), hT.keep h.s (by omega), hT.keep h.p (by omega), hT.blk, ownsRow_turn h.v hT (by omega), h.below.trans (hT.below (by omega) (by have := h.e.lt; omega)), h.ae, h.sa⟩
theorem RK.app {w W W' : World} {A S E C n : Nat} {g : GS} {mk : Int} {m : SpM} {q : Int} {i : Nat} {v v' : Value} (h : RK w A S E C n g mk m q (i + 1) i v W)
    (ho : W'.ownsRow (E + 1) 43 16 v' (i + 1 + 1) (bv (elsL m q (i + 1)) ++ bv (elR m q (i + 1)))) (hg : (W.alloc (.cells (bv (elR m q (i + 1))).toArray 43)).grownBy W' v.ownBlock) : RK w A S E C n g mk m q (i + 1) (i + 1) v' W' := by
  have hm : Below W.heap.size W (W.alloc (.cells (bv (elR m q (i + 1))).toArray 43)) := Go.Proofs.YtibbinenhmiclaaDoor.more (Below.refl _ _) _
  have hv := ownsRow_below h.v hm
  have hl := h.e.lt
  have hb : Below (E + 1) W W' := below_row_grown (hm.mono (by omega)) (by simp; omega) hv hg
  have hae := h.ae
  have hsa := h.sa
  exact ⟨h.k.frame (hb.block 0 (by omega)), h.s.upto hb (by omega), h.p.upto hb (by omega), h.e.upto hb (by omega), by rw [show bv (elsL m q (i + 1 + 1)) = bv (elsL m q (i + 1)) ++ bv (elR m q (i + 1)) from by rw [elsL_succ m q (i + 1)]; exact List.map_append]; exact ho, h.below.trans (hb.mono (by omega)), hae, hsa⟩
set_option maxRecDepth 100000 in
set_option maxHeartbeats 8000000 in
theorem reckon_any (m : SpM) (S C n : Nat) (g : GS) (mk : Int) (q : Int) (w : World) (hk : KonIs w) (ho : SpOk m) (hs : Blk w S (.cells (spc m C n g mk).toArray 88)) (hq : 0 ≤ q ∧ q ≤ 63) :
    Calls Tryd.prog 49 #[.pointer (some ⟨S, 0, none⟩), .int .i64 q] w fun r w' => ∃ v, r = .returned v ∧ w'.ownsRow w.heap.size 43 16 v (m.st.toNat + 1) (bv (elsL m q (m.st.toNat + 1))) ∧ Below w.heap.size w w' := by
  have HK := Kp.mk hk
  have HO := Kp.mk ho
  have HS := Kp.mk hs
  have HQ := Kp.mk hq
  have HQ32 : Kp (IntKind.u32.wrap q = q) := ⟨by simp [IntKind.wrap, IntKind.bits, IntKind.signed]; omega⟩
  have HD64 : Kp (IntKind.u64.wrap m.d = m.d) := ⟨by have h1 := lev_inv (m := m.wd) (k := (lev m.wd).toNat) (by have := ho.lv; omega); have h2 := ho.d; have h3 : (2 ^ (lev m.wd).toNat : Nat) ≤ 2 ^ 3 := Nat.pow_le_pow_right (by decide) h1.2; simp [IntKind.wrap, IntKind.bits, IntKind.signed]; omega⟩
  have HE64 : Kp (IntKind.u64.wrap m.e = m.e) := ⟨by have := ho.e; simp [IntKind.wrap, IntKind.bits, IntKind.signed]; omega⟩
  have HQ64 : Kp (IntKind.u64.wrap q = q) := ⟨by simp [IntKind.wrap, IntKind.bits, IntKind.signed]; omega⟩
  have HRNG : Kp (∀ x ∈ [m.d, m.e, q], 0 ≤ x ∧ x < 18446744073709551616) := ⟨fun x hx => by
    have h1 := lev_inv (m := m.wd) (k := (lev m.wd).toNat) (by have := ho.lv; omega)
    have h3 : (2 ^ (lev m.wd).toNat : Nat) ≤ 2 ^ 3 := Nat.pow_le_pow_right (by decide) h1.2
    have h2 := ho.d
    have h4 := ho.e
    simp at hx
    rcases hx with rfl | rfl | rfl <;> omega⟩
  obtain ⟨A, hA⟩ : ∃ A, A = w.heap.size := ⟨_, rfl⟩
  have HA := Kp.mk hA
  have HSA : Kp (S < A) := ⟨by rw [hA]; exact hs.lt⟩
  clear hk ho hs hq hA
  go_enter Tryd.func49, Tryd.ntmps49
  go_wp2_with fail
  refine wp_region_held_drew (S := fun w' => Kp (Blk w' S (.cells (spc m C n g mk).toArray 88))) (by kernel_rfl) (⟨HS.out.keep (Below.refl _ _).drew⟩) (fun hH => ?_)
  refine wpAnyH_take (i := 0) (oi := { dst := some 9, op := Go.Op.move (Go.Operand.tmp 0), type := 26, pos := "spring.go:122", after := #[], guard := none }) (v := .pointer (some ⟨S, 0, none⟩)) rfl (by kernel_rfl) (by kernel_rfl) (by kernel_rfl) (fun _ _ _ h => h) (Or.inl ⟨by rfl, fun w hS => by first | rfl | go_simp⟩) hH ?_
  simp only [Act.put, List.setIfInBounds_toArray, List.set_cons_zero, List.set_cons_succ]
  refine wpAnyH_take (i := 1) (oi := { dst := some 10, op := Go.Op.nilCheck (Go.Operand.tmp 9), type := 0, pos := "spring.go:122", after := #[{ on := 0, ground := Go.Ground.data }], guard := none }) (v := .pointer (some ⟨S, 0, none⟩)) rfl (by kernel_rfl) (by kernel_rfl) (by kernel_rfl) (fun _ _ _ h => h) (Or.inl ⟨by rfl, fun w hS => by first | rfl | go_simp⟩) hH ?_
  simp only [Act.put, List.setIfInBounds_toArray, List.set_cons_zero, List.set_cons_succ]
  refine wpAnyH_take (i := 2) (oi := { dst := some 11, op := Go.Op.fieldAddr 88 (Go.Operand.tmp 10) 2, type := 0, pos := "spring.go:122", after := #[{ on := 1, ground := Go.Ground.data }], guard := none }) (v := .pointer (some ⟨S, 35, none⟩)) rfl (by kernel_rfl) (by kernel_rfl) (by kernel_rfl) (fun _ _ _ h => h) (Or.inl ⟨by rfl, fun w hS => by first | rfl | go_simp⟩) hH ?_
  simp only [Act.put, List.setIfInBounds_toArray, List.set_cons_zero, List.set_cons_succ]
  refine wpAnyH_take (i := 3) (oi := { dst := some 12, op := Go.Op.load 3 (Go.Operand.tmp 11), type := 3, pos := "spring.go:122", after := #[{ on := 2, ground := Go.Ground.data }], guard := none }) (v := .int .i64 m.d) rfl (by kernel_rfl) (by kernel_rfl) (by kernel_rfl) (fun _ _ _ h => h) (Or.inl ⟨by rfl, fun w hS => by have c1 : w.cell? ⟨S, 35, none⟩ = some (.int .i64 m.d) := (hS.out.cell 35).trans (by rw [List.getElem?_toArray]; exact sp_35 HO.out.l C n g mk); go_simp⟩) hH ?_
  simp only [Act.put, List.setIfInBounds_toArray, List.set_cons_zero, List.set_cons_succ]
  refine wpAnyH_take (i := 4) (oi := { dst := some 13, op := Go.Op.move (Go.Operand.tmp 0), type := 26, pos := "spring.go:122", after := #[], guard := none }) (v := .pointer (some ⟨S, 0, none⟩)) rfl (by kernel_rfl) (by kernel_rfl) (by kernel_rfl) (fun _ _ _ h => h) (Or.inl ⟨by rfl, fun w hS => by first | rfl | go_simp⟩) hH ?_
  simp only [Act.put, List.setIfInBounds_toArray, List.set_cons_zero, List.set_cons_succ]
  refine wpAnyH_take (i := 5) (oi := { dst := some 14, op := Go.Op.nilCheck (Go.Operand.tmp 13), type := 0, pos := "spring.go:122", after := #[{ on := 4, ground := Go.Ground.data }], guard := none }) (v := .pointer (some ⟨S, 0, none⟩)) rfl (by kernel_rfl) (by kernel_rfl) (by kernel_rfl) (fun _ _ _ h => h) (Or.inl ⟨by rfl, fun w hS => by first | rfl | go_simp⟩) hH ?_
  simp only [Act.put, List.setIfInBounds_toArray, List.set_cons_zero, List.set_cons_succ]
  refine wpAnyH_take (i := 6) (oi := { dst := some 15, op := Go.Op.fieldAddr 88 (Go.Operand.tmp 14) 3, type := 0, pos := "spring.go:122", after := #[{ on := 5, ground := Go.Ground.data }], guard := none }) (v := .pointer (some ⟨S, 36, none⟩)) rfl (by kernel_rfl) (by kernel_rfl) (by kernel_rfl) (fun _ _ _ h => h) (Or.inl ⟨by rfl, fun w hS => by first | rfl | go_simp⟩) hH ?_
  simp only [Act.put, List.setIfInBounds_toArray, List.set_cons_zero, List.set_cons_succ]
  refine wpAnyH_take (i := 7) (oi := { dst := some 16, op := Go.Op.load 25 (Go.Operand.tmp 15), type := 25, pos := "spring.go:122", after := #[{ on := 6, ground := Go.Ground.data }], guard := none }) (v := .int .u32 m.e) rfl (by kernel_rfl) (by kernel_rfl) (by kernel_rfl) (fun _ _ _ h => h) (Or.inl ⟨by rfl, fun w hS => by have c1 : w.cell? ⟨S, 36, none⟩ = some (.int .u32 m.e) := (hS.out.cell 36).trans (by rw [List.getElem?_toArray]; exact sp_36 HO.out.l C n g mk); go_simp⟩) hH ?_
  simp only [Act.put, List.setIfInBounds_toArray, List.set_cons_zero, List.set_cons_succ]
  refine wpAnyH_take (i := 8) (oi := { dst := some 17, op := Go.Op.move (Go.Operand.tmp 1), type := 3, pos := "spring.go:122", after := #[], guard := none }) (v := .int .i64 q) rfl (by kernel_rfl) (by kernel_rfl) (by kernel_rfl) (fun _ _ _ h => h) (Or.inl ⟨by rfl, fun w hS => by first | rfl | go_simp⟩) hH ?_
  simp only [Act.put, List.setIfInBounds_toArray, List.set_cons_zero, List.set_cons_succ]
  refine wpAnyH_take (i := 9) (oi := { dst := some 18, op := Go.Op.convert 3 25 (Go.Operand.tmp 17), type := 25, pos := "spring.go:122", after := #[{ on := 8, ground := Go.Ground.data }], guard := none }) (v := .int .u32 q) rfl (by kernel_rfl) (by kernel_rfl) (by kernel_rfl) (fun _ _ _ h => h) (Or.inl ⟨by rfl, fun w hS => by have hq9 := HQ32.out; go_simp⟩) hH ?_
  simp only [Act.put, List.setIfInBounds_toArray, List.set_cons_zero, List.set_cons_succ]
  refine wpAnyH_take (i := 10) (oi := { dst := some 19, op := Go.Op.build 118 #[(0, Go.Operand.tmp 12), (1, Go.Operand.tmp 16), (2, Go.Operand.tmp 18)], type := 118, pos := "spring.go:122", after := #[{ on := 3, ground := Go.Ground.data }, { on := 7, ground := Go.Ground.data }, { on := 9, ground := Go.Ground.data }], guard := none }) (v := .agg #[.int .i64 m.d, .int .u32 m.e, .int .u32 q]) rfl (by kernel_rfl) (by kernel_rfl) (by kernel_rfl) (fun _ _ _ h => h) (Or.inl ⟨by rfl, fun w hS => by first | rfl | go_simp⟩) hH ?_
  simp only [Act.put, List.setIfInBounds_toArray, List.set_cons_zero, List.set_cons_succ]
  refine wpAnyH_ready (rs := [11]) (by kernel_rfl) (by simp) ?_
  refine AllReadyH.cons (o := { dst := some 5, op := Go.Op.alloc 118, type := 0, pos := "spring.go:122", after := #[], guard := none }) rfl (fun K hK => ?_) AllReadyH.nil
  go_simp
  refine hK.out _ _ (⟨hH.out.keep (more (Below.refl _ _) _)⟩) (fun hHn => ?_)
  clear hK K hH
  have hH := hHn
  clear hHn
  try simp only [Act.put, List.setIfInBounds_toArray, List.set_cons_zero, List.set_cons_succ]
  refine wpAnyH_ready (rs := [12]) (by kernel_rfl) (by simp) ?_
  refine AllReadyH.cons (o := { dst := none, op := Go.Op.store 118 (Go.Operand.tmp 5) (Go.Operand.tmp 19), type := 0, pos := "spring.go:122", after := #[{ on := 11, ground := Go.Ground.data }, { on := 10, ground := Go.Ground.data }, { on := 0, ground := Go.Ground.phase }, { on := 1, ground := Go.Ground.phase }, { on := 2, ground := Go.Ground.phase }, { on := 3, ground := Go.Ground.phase }, { on := 4, ground := Go.Ground.phase }, { on := 5, ground := Go.Ground.phase }, { on := 6, ground := Go.Ground.phase }, { on := 7, ground := Go.Ground.phase }, { on := 8, ground := Go.Ground.phase }, { on := 9, ground := Go.Ground.phase }, { on := 10, ground := Go.Ground.phase }, { on := 11, ground := Go.Ground.phase }], guard := none }) rfl (fun K hK => ?_) AllReadyH.nil
  rw [if_pos (by rfl)]
  refine wp_store_row 118 (.tmp 5) (.tmp 19) rfl w.heap.size #[.int .i64 m.d, .int .u32 m.e, .int .u32 q] rfl rfl 118 _ (Blk.newAt _ rfl) info118s rfl (pl_one _ _ _) ?_
  rw [drew_setRow, World.setRow_alloc_new]
  refine hK.out _ _ (⟨(HS.out.old _).keep (Below.refl _ _).drew⟩) (fun hHn => ?_)
  clear hK K hH
  have hH := hHn
  clear hHn
  try simp only [Act.put]
  clear hH
  refine wpAnyH_done (by kernel_rfl) ?_ _
  refine ex_worldS (fun W => KonIs W ∧ Blk W S (.cells (spc m C n g mk).toArray 88) ∧ Blk W A (.cells #[.int .i64 m.d, .int .u32 m.e, .int .u32 q] 118) ∧ (Below A w W ∧ A < W.heap.size)) ⟨(HK.out.keep (more (Below.refl w.heap.size w) _)).keep (Below.refl _ _).drew, (HS.out.old _).keep (Below.refl _ _).drew, (Blk.newAt _ HA.out).keep (Below.refl _ _).drew, by rw [HA.out]; exact (more (Below.refl w.heap.size w) _).drew, by rw [HA.out]; simp⟩ ?_
  intro W1 h1
  have S1 := Kp.mk h1
  clear h1
  rw [← HA.out]
  clear HS HK
  go_wp2_with fail
  refine wp_region_pred (fun w' => KonIs w' ∧ Blk w' S (.cells (spc m C n g mk).toArray 88) ∧ Blk w' A (.cells #[.int .i64 m.d, .int .u32 m.e, .int .u32 q] 118) ∧ (Below A w w' ∧ A < w'.heap.size)) [0, 1, 2, 3, 4, 5, 6, 7, 8, 9, 10, 11, 12, 13, 14, 15, 16, 17, 18] [19]
    (fun ι w' v => match ι with
      | 0 | 1 | 4 | 5 | 9 | 10 => v = .pointer (some ⟨S, 0, none⟩)
      | 2 => v = .pointer (some ⟨S, 3, none⟩)
      | 3 => v = .agg (bv m.seed).toArray
      | 6 => v = .pointer (some ⟨S, 35, none⟩)
      | 7 => v = .int .i64 m.d
      | 8 => v = .int .u64 m.d
      | 11 => v = .pointer (some ⟨S, 36, none⟩)
      | 12 => v = .int .u32 m.e
      | 13 => v = .int .u64 m.e
      | 14 => v = .int .i64 q
      | 15 => v = .int .u64 q
      | 17 => v = dgV (elR m q 0)
      | 16 => ∃ R, v = .slice (some ⟨R, 0, none⟩) 3 3 ∧ HoldsQ w' (some ⟨R, 0, none⟩) [m.d, m.e, q]
      | 18 => ∃ E, v = .pointer (some ⟨E, 0, none⟩) ∧ A < E ∧ Blk w' E z50
      | _ => v = .bool true)
    [[], [(0, some 20)], [(1, some 21)], [(2, some 22)], [], [(4, some 24)], [(5, some 25)], [(6, some 26)], [(7, some 27)], [], [(9, some 29)], [(10, some 30)], [(11, some 31)], [(12, some 32)], [], [(14, some 34)], [(8, some 28), (13, some 33), (15, some 35)], [(3, some 23), (16, some 36)], []]
    [(0, some 20), (1, some 21), (2, some 22), (3, some 23), (4, some 24), (5, some 25), (6, some 26), (7, some 27), (8, some 28), (9, some 29), (10, some 30), (11, some 31), (12, some 32), (13, some 33), (14, some 34), (15, some 35), (16, some 36), (17, some 37), (18, some 6)]
    (by kernel_rfl) (by kernel_rfl) (by kernel_rfl) (by kernel_rfl) (by kernel_rfl) (by kernel_rfl) (by decide) (by decide) (fun w1 w2 h hb => ⟨h.1.keep hb, h.2.1.keep hb, h.2.2.1.keep hb, ⟨h.2.2.2.1.trans (hb.mono (Nat.le_of_lt h.2.2.2.2)), Nat.lt_of_lt_of_le h.2.2.2.2 hb.size⟩⟩) ?_ ⟨S1.out.1.keep (Below.refl _ _).drew, S1.out.2.1.keep (Below.refl _ _).drew, S1.out.2.2.1.keep (Below.refl _ _).drew, ⟨S1.out.2.2.2.1.drew, S1.out.2.2.2.2⟩⟩ ?_ ?_
  · intro ι w1 w2 v h hb
    by_cases h16 : ι = 16
    · subst h16
      exact (by obtain ⟨R, e, hg⟩ := h; exact ⟨R, e, hg.keep hb⟩)
    by_cases h18 : ι = 18
    · subst h18
      exact (by obtain ⟨E, e, hl, hg⟩ := h; exact ⟨E, e, hl, hg.keep hb⟩)
    match ι, h16, h18, h with
    | 0, _, _, h => exact h
    | 1, _, _, h => exact h
    | 2, _, _, h => exact h
    | 3, _, _, h => exact h
    | 4, _, _, h => exact h
    | 5, _, _, h => exact h
    | 6, _, _, h => exact h
    | 7, _, _, h => exact h
    | 8, _, _, h => exact h
    | 9, _, _, h => exact h
    | 10, _, _, h => exact h
    | 11, _, _, h => exact h
    | 12, _, _, h => exact h
    | 13, _, _, h => exact h
    | 14, _, _, h => exact h
    | 15, _, _, h => exact h
    | 16, g, _, h => exact absurd rfl g
    | 17, _, _, h => exact h
    | 18, _, g, h => exact absurd rfl g
    | _ + 19, _, _, h => exact h
  · refine ⟨fun γ wx hS h => ?_, fun γ wx hS h => ?_, fun γ wx hS h => ?_, fun γ wx hS h => ?_, fun γ wx hS h => ?_, fun γ wx hS h => ?_, fun γ wx hS h => ?_, fun γ wx hS h => ?_, fun γ wx hS h => ?_, fun γ wx hS h => ?_, fun γ wx hS h => ?_, fun γ wx hS h => ?_, fun γ wx hS h => ?_, fun γ wx hS h => ?_, fun γ wx hS h => ?_, fun γ wx hS h => ?_, fun γ wx hS h => ?_, fun γ wx hS h => ?_, fun γ wx hS h => ?_, trivial⟩
    · refine ⟨_, rfl, ?_⟩
      refine predOp_val (v := .pointer (some ⟨S, 0, none⟩)) ?_ ?_ ?_
      · kernel_rfl
      · simp only [putE]
        go_simp
      · rfl
    · have h0 := h
      have e0 : γ 0 = .pointer (some ⟨S, 0, none⟩) := h0
      refine ⟨_, rfl, ?_⟩
      refine predOp_val (v := .pointer (some ⟨S, 0, none⟩)) ?_ ?_ ?_
      · kernel_rfl
      · simp only [putE, e0]
        go_simp
      · rfl
    · have h1 := h
      have e1 : γ 1 = .pointer (some ⟨S, 0, none⟩) := h1
      refine ⟨_, rfl, ?_⟩
      refine predOp_val (v := .pointer (some ⟨S, 3, none⟩)) ?_ ?_ ?_
      · kernel_rfl
      · simp only [putE, e1]
        go_simp
      · rfl
    · have h2 := h
      have e2 : γ 2 = .pointer (some ⟨S, 3, none⟩) := h2
      refine ⟨_, rfl, ?_⟩
      refine predOp_val (v := .agg (bv m.seed).toArray) ?_ ?_ ?_
      · kernel_rfl
      · exact exec_load_midS (x := .tmp 22) rfl (by simp only [putE, e2]; rfl) (sp_range HO.out.l hS.2.1) Tryd.underlying70 rfl (info70l HO.out.l)
      · rfl
    · refine ⟨_, rfl, ?_⟩
      refine predOp_val (v := .pointer (some ⟨S, 0, none⟩)) ?_ ?_ ?_
      · kernel_rfl
      · simp only [putE]
        go_simp
      · rfl
    · have h4 := h
      have e4 : γ 4 = .pointer (some ⟨S, 0, none⟩) := h4
      refine ⟨_, rfl, ?_⟩
      refine predOp_val (v := .pointer (some ⟨S, 0, none⟩)) ?_ ?_ ?_
      · kernel_rfl
      · simp only [putE, e4]
        go_simp
      · rfl
    · have h5 := h
      have e5 : γ 5 = .pointer (some ⟨S, 0, none⟩) := h5
      refine ⟨_, rfl, ?_⟩
      refine predOp_val (v := .pointer (some ⟨S, 35, none⟩)) ?_ ?_ ?_
      · kernel_rfl
      · simp only [putE, e5]
        go_simp
      · rfl
    · have h6 := h
      have e6 : γ 6 = .pointer (some ⟨S, 35, none⟩) := h6
      have hcell : wx.cell? ⟨S, 35, none⟩ = some (.int .i64 m.d) := (hS.2.1.cell 35).trans (by rw [List.getElem?_toArray]; exact sp_35 HO.out.l C n g mk)
      refine ⟨_, rfl, ?_⟩
      refine predOp_val (v := .int .i64 m.d) ?_ ?_ ?_
      · kernel_rfl
      · simp only [putE, e6]
        go_simp
      · rfl
    · have h7 := h
      have e7 : γ 7 = .int .i64 m.d := h7
      have hq := HD64.out
      refine ⟨_, rfl, ?_⟩
      refine predOp_val (v := .int .u64 m.d) ?_ ?_ ?_
      · kernel_rfl
      · simp only [putE, e7]
        go_simp
      · rfl
    · refine ⟨_, rfl, ?_⟩
      refine predOp_val (v := .pointer (some ⟨S, 0, none⟩)) ?_ ?_ ?_
      · kernel_rfl
      · simp only [putE]
        go_simp
      · rfl
    · have h9 := h
      have e9 : γ 9 = .pointer (some ⟨S, 0, none⟩) := h9
      refine ⟨_, rfl, ?_⟩
      refine predOp_val (v := .pointer (some ⟨S, 0, none⟩)) ?_ ?_ ?_
      · kernel_rfl
      · simp only [putE, e9]
        go_simp
      · rfl
    · have h10 := h
      have e10 : γ 10 = .pointer (some ⟨S, 0, none⟩) := h10
      refine ⟨_, rfl, ?_⟩
      refine predOp_val (v := .pointer (some ⟨S, 36, none⟩)) ?_ ?_ ?_
      · kernel_rfl
      · simp only [putE, e10]
        go_simp
      · rfl
    · have h11 := h
      have e11 : γ 11 = .pointer (some ⟨S, 36, none⟩) := h11
      have hcell : wx.cell? ⟨S, 36, none⟩ = some (.int .u32 m.e) := (hS.2.1.cell 36).trans (by rw [List.getElem?_toArray]; exact sp_36 HO.out.l C n g mk)
      refine ⟨_, rfl, ?_⟩
      refine predOp_val (v := .int .u32 m.e) ?_ ?_ ?_
      · kernel_rfl
      · simp only [putE, e11]
        go_simp
      · rfl
    · have h12 := h
      have e12 : γ 12 = .int .u32 m.e := h12
      have hq := HE64.out
      refine ⟨_, rfl, ?_⟩
      refine predOp_val (v := .int .u64 m.e) ?_ ?_ ?_
      · kernel_rfl
      · simp only [putE, e12]
        go_simp
      · rfl
    · refine ⟨_, rfl, ?_⟩
      refine predOp_val (v := .int .i64 q) ?_ ?_ ?_
      · kernel_rfl
      · simp only [putE]
        go_simp
      · rfl
    · have h14 := h
      have e14 : γ 14 = .int .i64 q := h14
      have hq := HQ64.out
      refine ⟨_, rfl, ?_⟩
      refine predOp_val (v := .int .u64 q) ?_ ?_ ?_
      · kernel_rfl
      · simp only [putE, e14]
        go_simp
      · rfl
    · obtain ⟨h8, h13, h15⟩ := h
      have e8 : γ 8 = .int .u64 m.d := h8
      have e13 : γ 13 = .int .u64 m.e := h13
      have e15 : γ 15 = .int .u64 q := h15
      refine ⟨_, rfl, Or.inl ⟨rfl, predRun_new (w' := wx.alloc (.cells #[.int .u64 m.d, .int .u64 m.e, .int .u64 q] 99)) (v := .slice (some ⟨wx.heap.size, 0, none⟩) 3 3) (by simp only [putE, e8, e13, e15]; go_simp) (more (Below.refl _ _) _) ⟨_, rfl, holdsQ3 HRNG.out wx⟩⟩⟩
    · obtain ⟨h3, h16⟩ := h
      have e3 : γ 3 = .agg (bv m.seed).toArray := h3
      have p16 : ∃ R, (γ 16) = .slice (some ⟨R, 0, none⟩) 3 3 ∧ HoldsQ wx (some ⟨R, 0, none⟩) [m.d, m.e, q] := h16
      obtain ⟨R, eR, hR⟩ := p16
      refine ⟨_, rfl, Or.inl ⟨rfl, predRun_call (f := 57) (args := #[.agg (bv m.seed).toArray, .int .u8 69, .slice (some ⟨R, 0, none⟩) 3 3]) (by simp only [putE, e3, eR]; go_simp) ?_⟩⟩
      exact (prf_any m.seed 69 3 3 (some ⟨R, 0, none⟩) [m.d, m.e, q] wx hS.1 HO.out.l HO.out.b (by decide) rfl hR (by decide)).mono fun r w9 ⟨h1, h2⟩ => ⟨_, h1, rfl, h2⟩
    · refine ⟨_, rfl, Or.inl ⟨rfl, predRun_new (w' := wx.alloc z50) (v := .pointer (some ⟨wx.heap.size, 0, none⟩)) (by simp only [putE]; first | rfl | (go_simp; done) | (go_simp; rfl)) (more (Below.refl _ _) _) ⟨_, rfl, hS.2.2.2.2, Blk.new _ _⟩⟩⟩
  · intro γ w9 hS h
    obtain ⟨E, eE, hAE, hE⟩ := h.2.2.2.2.2.2.2.2.2.2.2.2.2.2.2.2.2.2
    have e17 : γ 17 = dgV (elR m q 0) := h.2.2.2.2.2.2.2.2.2.2.2.2.2.2.2.2.2.1
    have G1 := Kp.mk hS
    have GE := Kp.mk (And.intro hAE hE)
    simp only [putE, Act.put, List.setIfInBounds_toArray, List.set_cons_zero, List.set_cons_succ]
    rw [eE, e17]
    clear h hS hE hAE eE e17 S1
    refine wpOps_step rfl rfl ?_
    refine wp_store_rowDS rfl 43 (.tmp 6) (.tmp 37) rfl E (bv (elR m q 0)).toArray rfl rfl 43 _ GE.out.2 (cells50 (elR_len m q 0)) (size50 (elR_len m q 0)) (kv_all _ _) ?_
    have hT := Turn.ofRowS GE.out.2 (bv (elR m q 0)).toArray
    have S2 : Kp (KonIs (w9.setRow E (bv (elR m q 0)).toArray) ∧ Blk (w9.setRow E (bv (elR m q 0)).toArray) S (.cells (spc m C n g mk).toArray 88) ∧ Blk (w9.setRow E (bv (elR m q 0)).toArray) A (.cells #[.int .i64 m.d, .int .u32 m.e, .int .u32 q] 118) ∧ (Below A w (w9.setRow E (bv (elR m q 0)).toArray) ∧ A < E ∧ E < (w9.setRow E (bv (elR m q 0)).toArray).heap.size) ∧ Blk (w9.setRow E (bv (elR m q 0)).toArray) E (.cells (bv (elR m q 0)).toArray 43)) := ⟨G1.out.1.frame (hT.other 0 G1.out.1.pos (by have := GE.out.1; omega)), hT.keep G1.out.2.1 (by have := HSA.out; have := GE.out.1; omega), hT.keep G1.out.2.2.1 (by have := GE.out.1; omega), ⟨G1.out.2.2.2.1.trans (hT.below (by have := GE.out.1; omega) (by have := G1.out.2.2.2.2; omega)), GE.out.1, hT.blk.lt⟩, hT.blk⟩
    clear hT G1 GE
    generalize w9.setRow E (bv (elR m q 0)).toArray = W2 at *
    refine wpOps_done ?_
    have y1 : W2.cell? ⟨S, 1, none⟩ = some (.int .i64 m.st) := (S2.out.2.1.cell 1).trans (by rw [List.getElem?_toArray]; exact sp_1 m C n g mk)
    go_wp2_with (first
      | (refine wpList_load_row rfl 43 (.tmp 6) rfl E rfl 43 (bv (elR m q 0)).toArray (0, 0) _ S2.out.2.2.2.2 Tryd.underlying43 rfl (cells50 (elR_len m q 0)) ?_)
      | (refine wpList_buildSlice_one rfl 50 1 (.tmp 38) rfl (dgV (elR m q 0)) rfl _ _ (build66 (elR_len m q 0) _) ?_; refine wpl_world (fun W => RK w A S E C n g mk m q 0 0 (.slice (some ⟨W2.heap.size, 0, none⟩) 1 1) W) (RK.first S2.out.1 S2.out.2.1 S2.out.2.2.1 S2.out.2.2.2.1.1 S2.out.2.2.2.1.2.1 S2.out.2.2.2.1.2.2 S2.out.2.2.2.2 HSA.out) ?_; rintro W3 h3; have S3 := Kp.mk h3; have y2 : W3.cell? ⟨S, 1, none⟩ = some (.int .i64 m.st) := (h3.s.cell 1).trans (by rw [List.getElem?_toArray]; exact sp_1 m C n g mk); clear h3))
    clear y1 S2
    obtain ⟨k, hk⟩ : ∃ k : Nat, m.st = k := ⟨m.st.toNat, by have := HO.out.s; omega⟩
    have HK := Kp.mk hk
    clear hk
    obtain ⟨i0, hi0, hz0, hz1, hz2⟩ := info_parts info33m
    go_loopw [7, 45] (fun sv ct wr => ∃ (i : Nat) (av : Option Addr) (nv cv : Nat), i ≤ k ∧ ct = .int .i64 i ∧ sv = .slice av nv cv ∧ Kp (RK w A S E C n g mk m q i i (.slice av nv cv) wr)) (fun _ ct _ => k - (intOf ct).toNat)
    case atStart => exact ⟨0, _, _, _, by omega, rfl, rfl, S3⟩
    case round =>
      clear S3 y2
      obtain ⟨i, av, nv, cv, hi, rfl, rfl, HR⟩ := hrel
      by_cases hlt : i < k
      · have hlt2 : (i : Int) < m.st := by have := HK.out; omega
        have HI : Kp (i < k ∧ k ≤ 16) := ⟨hlt, by have := HO.out.s; have := HK.out; omega⟩
        go_wp2_with fail
        refine wp_region_predQ (fun w' => RK w A S E C n g mk m q i i (.slice av nv cv) w' ∧ True) [0, 1, 2, 3, 4, 5, 6, 7, 8, 9, 10, 11] [11] [12]
          (fun ι w' v => match ι with
            | 0 => v = .agg #[.int .i64 m.d, .int .u32 m.e, .int .u32 q]
            | 1 => v = .int .i64 i
            | 2 => v = dgV (elR m q i)
            | 3 | 4 | 5 | 6 => v = .pointer (some ⟨S, 0, none⟩)
            | 7 => v = .int .i64 m.wd
            | 8 | 9 => v = .tuple #[dgV (elR m q (i + 1)), .int .i64 (upF i m.wd)]
            | 10 => v = dgV (elR m q (i + 1))
            | 11 => v = .int .i64 (upF i m.wd)
            | _ => v = .bool true)
          [[], [], [], [], [(3, some 52)], [(4, some 53)], [(5, some 54)], [(6, some 55)], [(0, some 49), (1, some 50), (2, some 51), (7, some 56)], [(8, some 57)], [(9, some 48)], [(9, some 48)]]
          [[(9, some 48)]]
          [(0, some 49), (1, some 50), (2, some 51), (3, some 52), (4, some 53), (5, some 54), (6, some 55), (7, some 56), (8, some 57), (9, some 48), (10, some 58), (11, some 59)]
          (by kernel_rfl) (by kernel_rfl) (by kernel_rfl) (by kernel_rfl) (by kernel_rfl) (by kernel_rfl) (by kernel_rfl) (by decide) (by decide) (fun w1 w2 h hb => ⟨h.1.more hb, trivial⟩) (fun c a w d v h => by cases d <;> exact h) ?_ ⟨HR.out.more (Below.refl _ _).drew, trivial⟩ ?_ ?_ ?_
        · intro ι w1 w2 v h hb
          match ι, h with
          | 0, h => exact h
          | 1, h => exact h
          | 2, h => exact h
          | 3, h => exact h
          | 4, h => exact h
          | 5, h => exact h
          | 6, h => exact h
          | 7, h => exact h
          | 8, h => exact h
          | 9, h => exact h
          | 10, h => exact h
          | 11, h => exact h
          | _ + 12, h => exact h
        · refine ⟨fun γ wx hS h => ?_, fun γ wx hS h => ?_, fun γ wx hS h => ?_, fun γ wx hS h => ?_, fun γ wx hS h => ?_, fun γ wx hS h => ?_, fun γ wx hS h => ?_, fun γ wx hS h => ?_, fun γ wx hS h => ?_, fun γ wx hS h => ?_, fun γ wx hS h => ?_, fun γ wx hS h => ?_, trivial⟩
          · refine ⟨_, rfl, ?_⟩
            refine predOp_val (v := .agg #[.int .i64 m.d, .int .u32 m.e, .int .u32 q]) ?_ ?_ ?_
            · kernel_rfl
            · exact exec_load_blk 118 (.tmp 5) rfl A rfl 118 #[.int .i64 m.d, .int .u32 m.e, .int .u32 q] (0, 0) _ hS.1.p Tryd.underlying118 rfl info118s
            · rfl
          · refine ⟨_, rfl, ?_⟩
            refine predOp_val (v := .int .i64 i) ?_ ?_ ?_
            · kernel_rfl
            · simp only [putE]
              go_simp
            · rfl
          · refine ⟨_, rfl, ?_⟩
            refine predOp_val (v := dgV (elR m q i)) ?_ ?_ ?_
            · kernel_rfl
            · exact exec_load_blk 43 (.tmp 6) rfl E rfl 43 (bv (elR m q i)).toArray (0, 0) _ hS.1.e Tryd.underlying43 rfl (cells50 (elR_len m q i))
            · rfl
          · refine ⟨_, rfl, ?_⟩
            refine predOp_val (v := .pointer (some ⟨S, 0, none⟩)) ?_ ?_ ?_
            · kernel_rfl
            · simp only [putE]
              go_simp
            · rfl
          · have h3 := h
            have e3 : γ 3 = .pointer (some ⟨S, 0, none⟩) := h3
            refine ⟨_, rfl, ?_⟩
            refine predOp_val (v := .pointer (some ⟨S, 0, none⟩)) ?_ ?_ ?_
            · kernel_rfl
            · simp only [putE, e3]
              go_simp
            · rfl
          · have h4 := h
            have e4 : γ 4 = .pointer (some ⟨S, 0, none⟩) := h4
            refine ⟨_, rfl, ?_⟩
            refine predOp_val (v := .pointer (some ⟨S, 0, none⟩)) ?_ ?_ ?_
            · kernel_rfl
            · simp only [putE, e4]
              go_simp
            · rfl
          · have h5 := h
            have e5 : γ 5 = .pointer (some ⟨S, 0, none⟩) := h5
            refine ⟨_, rfl, ?_⟩
            refine predOp_val (v := .pointer (some ⟨S, 0, none⟩)) ?_ ?_ ?_
            · kernel_rfl
            · simp only [putE, e5]
              go_simp
            · rfl
          · have h6 := h
            have e6 : γ 6 = .pointer (some ⟨S, 0, none⟩) := h6
            have hcell : wx.cell? ⟨S, 0, none⟩ = some (.int .i64 m.wd) := (hS.1.s.cell 0).trans (by rw [List.getElem?_toArray]; exact sp_0 m C n g mk)
            refine ⟨_, rfl, ?_⟩
            refine predOp_val (v := .int .i64 m.wd) ?_ ?_ ?_
            · kernel_rfl
            · simp only [putE, e6]
              go_simp
            · rfl
          · obtain ⟨h0, h1, h2, h7⟩ := h
            have e0 : γ 0 = .agg #[.int .i64 m.d, .int .u32 m.e, .int .u32 q] := h0
            have e1 : γ 1 = .int .i64 i := h1
            have e2 : γ 2 = dgV (elR m q i) := h2
            have e7 : γ 7 = .int .i64 m.wd := h7
            refine ⟨_, rfl, Or.inl ⟨rfl, predRun_call (f := 58) (args := #[.agg #[.int .i64 m.d, .int .u32 m.e, .int .u32 q], .int .i64 i, dgV (elR m q i), .int .i64 m.wd]) (by simp only [putE, e0, e1, e2, e7]; go_simp) ?_⟩⟩
            exact (up_any m.d m.e q i (elR m q i) m.wd wx hS.1.k (by have := HO.out.e; omega) (by have := HQ.out; omega) (elR_len m q i) (elR_bytes m q i)).mono fun r w9 ⟨h1, h2⟩ => ⟨_, h1, rfl, h2⟩
          · have h8 := h
            have e8 : γ 8 = .tuple #[dgV (elR m q (i + 1)), .int .i64 (upF i m.wd)] := h8
            refine ⟨_, rfl, ?_⟩
            refine predOp_val (v := .tuple #[dgV (elR m q (i + 1)), .int .i64 (upF i m.wd)]) ?_ ?_ ?_
            · kernel_rfl
            · simp only [putE, e8]
              go_simp
            · rfl
          · have h9 := h
            have e9 : γ 9 = .tuple #[dgV (elR m q (i + 1)), .int .i64 (upF i m.wd)] := h9
            refine ⟨_, rfl, ?_⟩
            refine predOp_val (v := dgV (elR m q (i + 1))) ?_ ?_ ?_
            · kernel_rfl
            · simp only [putE, e9]
              go_simp
            · rfl
          · have h9 := h
            have e9 : γ 9 = .tuple #[dgV (elR m q (i + 1)), .int .i64 (upF i m.wd)] := h9
            refine ⟨_, rfl, ?_⟩
            refine predOp_val (v := .int .i64 (upF i m.wd)) ?_ ?_ ?_
            · kernel_rfl
            · simp only [putE, e9]
              go_simp
            · rfl
        · refine ⟨fun γ wx hS h => ?_, trivial⟩
          · have h9 := h
            have e9 : γ 9 = .tuple #[dgV (elR m q (i + 1)), .int .i64 (upF i m.wd)] := h9
            refine ⟨_, .int .i64 (upF i m.wd), rfl, Or.inl ⟨rfl, fun wz => by simp only [putE, e9]; first | rfl | (go_simp; done) | (go_simp; rfl)⟩, rfl⟩
        · intro γ w9 hS h
          have e10 : γ 10 = dgV (elR m q (i + 1)) := h.2.2.2.2.2.2.2.2.2.2.1
          have G1 := Kp.mk hS.1
          simp only [putE, Act.put, List.setIfInBounds_toArray, List.set_cons_zero, List.set_cons_succ]
          rw [e10]
          clear h hS e10 HR
          refine wpOps_step rfl rfl ?_
          refine wp_store_rowDS rfl 43 (.tmp 6) (.tmp 58) rfl E (bv (elR m q (i + 1))).toArray rfl rfl 43 _ G1.out.e (cells50 (elR_len m q (i + 1))) (by rw [kv_size, kv_size, elR_len, elR_len]) (kv_all _ _) ?_
          have S3 := Kp.mk (G1.out.turn)
          clear G1
          generalize w9.setRow E (bv (elR m q (i + 1))).toArray = W4 at *
          refine wpOps_done ?_
          go_wp2_with (first
            | (refine wpList_load_row rfl 43 (.tmp 6) rfl E rfl 43 (bv (elR m q (i + 1))).toArray (0, 0) _ S3.out.e Tryd.underlying43 rfl (cells50 (elR_len m q (i + 1))) ?_)
            | (refine wpList_buildSlice_one rfl 50 1 (.tmp 61) rfl (dgV (elR m q (i + 1))) rfl _ _ (build66 (elR_len m q (i + 1)) _) ?_)
            | (at_builtin; refine wpList_append_own _ rfl _ _ 50 rfl (E + 1) 43 i0 _ 16 16 Tryd.underlying50 hi0 hz0 hz1 hz2 rfl (by decide) _ (i + 1) (bv (elsL m q (i + 1))) rfl (S3.out.v.alloc _) ⟨W4.heap.size, 0, none⟩ 1 1 (bv (elR m q (i + 1))) rfl (by rw [List.length_map, elR_len]) ?c1 ?c2 ?c3 ?c4 ?c5 ?_))
          case c1 => exact World.news_of_block (Blk.new W4 (.cells (bv (elR m q (i + 1))).toArray 43))
          case c2 => exact fun u hu => List.all_eq_true.1 (by simpa using kv_all .u8 (elR m q (i + 1))) u hu
          case c3 => have := HO.out.s; have := HI.out; unfold maxLen; omega
          case c4 => have := HO.out.s; have := HI.out; omega
          case c5 => have := S3.out.e.lt; simp; omega
          · intro v' w5 hown' hgrow _
            obtain ⟨a9, n9, c9, rfl⟩ : ∃ a n c, v' = .slice a n c := by rcases hown'.2 with ⟨e9, _⟩ | ⟨g, cap, cur, e9, _⟩ <;> exact ⟨_, _, _, e9⟩
            have S5 := Kp.mk (S3.out.app hown' hgrow)
            clear hown' hgrow S3
            have hik : (i : Int) < 16 := by have := HI.out; omega
            go_wp2_with fail
            exact ⟨⟨i + 1, _, _, _, by have := HI.out; omega, by go_num, rfl, S5⟩, by have := HI.out; simp [intOf]; omega⟩
      · have hlt2 : ¬ (i : Int) < m.st := by have := HK.out; omega
        obtain rfl : i = k := by omega
        go_wp2_with fail
        go_ret
        exact ⟨_, rfl, by rw [HK.out, Int.toNat_natCast, ← HA.out]; exact ownsRow_base HR.out.v (by have := HR.out.ae; omega), by rw [← HA.out]; exact HR.out.below⟩
end Go.Proofs.YtibbinenhmiclaaDoor

namespace Go.Proofs.YtibbinenhmiclaaDoor
open Go.RowKit

theorem ownsRow_lenS {w : World} {base t n size : Nat} {a : Option Addr} {m c : Nat} {xs : List Value} (h : w.ownsRow base t size (.slice a m c) n xs) : m = n := by
  rcases h.2 with ⟨e, h0⟩ | ⟨g, cap, cur, e, _⟩ <;> (simp only [Value.slice.injEq] at e; omega)
theorem addOne_any (a : Addr) (x : Int) (w : World) (hc : w.cell? a = some (.int .i64 x)) (hz : w.frozen? a = false) (hx : 0 ≤ x ∧ x ≤ 1000) :
    Calls Tryd.prog 50 #[.pointer (some a), .int .i64 1] w fun r w' => r = .returned (.int .i64 (x + 1)) ∧ w' = w.setCell a (.int .i64 (x + 1)) := by
  have hadd := run_call_add (P := Tryd.prog) Tryd.func59 (by kernel_rfl) (by kernel_rfl) (by kernel_rfl) .i64 (by kernel_rfl) (y := 1) (s := x + 1) hc hz (by simp [go_sem, IntKind.wrap_i64]; omega)
  go_enter Tryd.func50, Tryd.ntmps50
  go_wp2
  go_ret
  exact ⟨rfl, rfl⟩
/-- What a spring's calls leave as it was: all but its two blocks, and what is new. -/
structure Off (B S C : Nat) (w w' : World) : Prop where
  b : Below B w w'
  o : ∀ k, k < w.heap.size → k ≠ S → k ≠ C → w'.heap[k]? = w.heap[k]?
theorem Off.refl (B S C : Nat) (w : World) : Off B S C w w := ⟨Below.refl _ _, fun _ _ _ _ => rfl⟩
theorem Off.of {B S C A : Nat} {w W : World} (h : Below A w W) (hA : A = w.heap.size) (hB : B ≤ A) : Off B S C w W := ⟨h.mono hB, fun k hk _ _ => h.block k (by omega)⟩
theorem Off.trans {B S C : Nat} {w W W' : World} (h : Off B S C w W) (h2 : Off B S C W W') : Off B S C w W' := ⟨h.b.trans h2.b, fun k hk h1 h3 => (h2.o k (Nat.lt_of_lt_of_le hk h.b.size) h1 h3).trans (h.o k hk h1 h3)⟩
theorem Off.more {B S C : Nat} {w W W' : World} (h : Off B S C w W) (hb : Below W.heap.size W W') (hB : B ≤ W.heap.size) : Off B S C w W' := ⟨h.b.trans (hb.mono hB), fun k hk _ _ => (hb.block k (Nat.lt_of_lt_of_le hk h.b.size)).trans (h.o k hk ‹_› ‹_›)⟩
theorem Off.turn {B S C b : Nat} {o : Obj} {w W W' : World} (h : Off B S C w W) (hT : Turn b o W W') (hb : b = S ∨ b = C) (hB : B ≤ b) (hs : B ≤ W.heap.size) : Off B S C w W' :=
  ⟨h.b.trans (hT.below hB hs), fun k hk h1 h2 => (hT.other k (Nat.lt_of_lt_of_le hk h.b.size) (by rcases hb with rfl | rfl <;> assumption)).trans (h.o k hk h1 h2)⟩
theorem Off.blk {B S C k : Nat} {o : Obj} {w w' : World} (h : Off B S C w w') (hb : Blk w k o) (h1 : k ≠ S) (h2 : k ≠ C) : Blk w' k o := (h.o k hb.lt h1 h2).trans hb
/-- The closure, on its way: the lock is held; the chain's slice is x; so many are made. -/
structure CLs (w : World) (B A S C n : Nat) (g : GS) (mk : Int) (m : SpM) (f : Nat → Option Value) (q : Nat) (x : Value) (mk' : Int) (W : World) : Prop where
  k : KonIs W
  s : Blk W S (.cells (spc m C n g mk').toArray 88)
  c : Blk W C (.cells (((chl f n).set (q * 4 + 1) (.int .i32 1)).set (q * 4 + 3) x).toArray 111)
  a0 : Blk W A (.cells #[.pointer (some ⟨S, 0, none⟩)] 26)
  a1 : Blk W (A + 1) (.cells #[.int .i64 q] 3)
  a2 : Blk W (A + 2) (.cells #[.pointer (some ⟨C, q * 4, none⟩)] 109)
  el : ∀ (i : Nat) v, i < n → f i = some v → W.ownsRow B 43 16 v (m.st.toNat + 1) (bv (elsL m i (m.st.toNat + 1)))
  below : Off B S C w W
  b0 : 0 < B
  bs : B ≤ S
  bc : B ≤ C
  ble : B ≤ W.heap.size
  sc : S ≠ C
  sa : S < A
  ca : C < A
theorem CLs.more {w W W' : World} {B A S C n : Nat} {g : GS} {mk mk' : Int} {m : SpM} {f : Nat → Option Value} {q : Nat} {x : Value} (h : CLs w B A S C n g mk m f q x mk' W) (hb : Below W.heap.size W W') : CLs w B A S C n g mk m f q x mk' W' :=
  ⟨h.k.keep hb, h.s.keep hb, h.c.keep hb, h.a0.keep hb, h.a1.keep hb, h.a2.keep hb, fun i v hi hv => ownsRow_below (h.el i v hi hv) hb, h.below.more hb h.ble, h.b0, h.bs, h.bc, Nat.le_trans h.ble hb.size, h.sc, h.sa, h.ca⟩
theorem CLs.c3 {w W : World} {B A S C n : Nat} {g : GS} {mk mk' : Int} {m : SpM} {f : Nat → Option Value} {q : Nat} {x : Value} (h : CLs w B A S C n g mk m f q x mk' W) (hq : q < n) : W.cell? ⟨C, q * 4 + 3, none⟩ = some x := by
  rw [h.c.cell (q * 4 + 3), List.getElem?_toArray, List.getElem?_set_self (by rw [List.length_set, chl_len]; omega)]
theorem CLs.put {w W : World} {B A S C n : Nat} {g : GS} {mk mk' : Int} {m : SpM} {f : Nat → Option Value} {q : Nat} {x v : Value} {D : Nat} (h : CLs w B A S C n g mk m f q x mk' W) (hv : W.ownsRow D 43 16 v (m.st.toNat + 1) (bv (elsL m q (m.st.toNat + 1)))) :
    CLs w B A S C n g mk m f q v mk' (W.setCell ⟨C, q * 4 + 3, none⟩ v) ∧ (W.setCell ⟨C, q * 4 + 3, none⟩ v).ownsRow D 43 16 v (m.st.toNat + 1) (bv (elsL m q (m.st.toNat + 1))) := by
  have hT : Turn C (.cells (((chl f n).set (q * 4 + 1) (.int .i32 1)).set (q * 4 + 3) v).toArray 111) W (W.setCell ⟨C, q * 4 + 3, none⟩ v) := ((Turn.same h.c).set (q * 4 + 3) v).as (by rw [List.setIfInBounds_toArray, List.set_set])
  have hca := h.ca
  have hbc := h.bc
  have hb := h.below.turn hT (.inr rfl) hbc h.ble
  exact ⟨⟨h.k.turn hT (by have := h.b0; omega), hT.keep h.s h.sc, hT.blk, hT.keep h.a0 (by omega), hT.keep h.a1 (by omega), hT.keep h.a2 (by omega), fun i u hi hu => ownsRow_turnS (h.el i u hi hu) hT h.c (by decide), hb, h.b0, h.bs, h.bc, Nat.le_trans h.ble hT.size, h.sc, h.sa, h.ca⟩, ownsRow_turnS hv hT h.c (by decide)⟩
theorem sp_set42 {m : SpM} (h : m.seed.length = 32) (C n : Nat) (g : GS) (mk mk' : Int) : (spc m C n g mk).toArray.setIfInBounds 42 (.int .i64 mk') = (spc m C n g mk').toArray := by rw [List.setIfInBounds_toArray, spc_mk h]
theorem CLs.s42 {w W : World} {B A S C n : Nat} {g : GS} {mk mk' : Int} {m : SpM} {f : Nat → Option Value} {q : Nat} {x : Value} (h : CLs w B A S C n g mk m f q x mk' W) (hl : m.seed.length = 32) : W.cell? ⟨S, 42, none⟩ = some (.int .i64 mk') := by
  rw [h.s.cell 42, List.getElem?_toArray]
  exact sp_42 hl C n g mk'
theorem CLs.add {w W : World} {B A S C n : Nat} {g : GS} {mk mk' : Int} {m : SpM} {f : Nat → Option Value} {q : Nat} {x v : Value} {D : Nat} {xs : List Value} {k : Nat} (h : CLs w B A S C n g mk m f q x mk' W ∧ W.ownsRow D 43 16 v k xs) (hl : m.seed.length = 32) :
    CLs w B A S C n g mk m f q x (mk' + 1) (W.setCell ⟨S, 42, none⟩ (.int .i64 (mk' + 1))) ∧ (W.setCell ⟨S, 42, none⟩ (.int .i64 (mk' + 1))).ownsRow D 43 16 v k xs := by
  obtain ⟨h, hv⟩ := h
  have hT : Turn S (.cells (spc m C n g (mk' + 1)).toArray 88) W (W.setCell ⟨S, 42, none⟩ (.int .i64 (mk' + 1))) := ((Turn.same h.s).set 42 _).as (by rw [sp_set42 hl])
  have hsa := h.sa
  have hb := h.below.turn hT (.inl rfl) h.bs h.ble
  exact ⟨⟨h.k.turn hT (by have := h.b0; have := h.bs; omega), hT.blk, hT.keep h.c (Ne.symm h.sc), hT.keep h.a0 (by omega), hT.keep h.a1 (by omega), hT.keep h.a2 (by omega), fun i u hi hu => ownsRow_turnS (h.el i u hi hu) hT h.s (by decide), hb, h.b0, h.bs, h.bc, Nat.le_trans h.ble hT.size, h.sc, h.sa, h.ca⟩, ownsRow_turnS hv hT h.s (by decide)⟩
set_option maxRecDepth 100000 in
set_option maxHeartbeats 8000000 in
theorem closure_any (w : World) (B A S C n : Nat) (g : GS) (mk : Int) (m : SpM) (f : Nat → Option Value) (q : Nat) (W : World) (ho : SpOk m) (hq : q < n) (hn : n ≤ 64) (hmk : 0 ≤ mk ∧ mk ≤ 1000) (hc : CLs w B A S C n g mk m f q (.slice none 0 0) mk W) :
    Calls Tryd.prog 48 #[.pointer (some ⟨A, 0, none⟩), .pointer (some ⟨A + 1, 0, none⟩), .pointer (some ⟨A + 2, 0, none⟩)] W fun r w' => r = .returned (.tuple #[]) ∧ ∃ av cv, CLs w B A S C n g mk m f q (.slice av (m.st.toNat + 1) cv) (mk + 1) w' ∧ w'.ownsRow W.heap.size 43 16 (.slice av (m.st.toNat + 1) cv) (m.st.toNat + 1) (bv (elsL m q (m.st.toNat + 1))) := by
  have HO := Kp.mk ho
  have HQ := Kp.mk (And.intro hq hn)
  have HMK := Kp.mk hmk
  have HC := Kp.mk hc
  clear ho hq hn hmk hc
  go_enter Tryd.func48, Tryd.ntmps48
  go_wp2_with fail
  refine wp_region_held_drew (S := fun w' => Kp (∃ x, CLs w B A S C n g mk m f q x mk w')) (by kernel_rfl) (⟨_, HC.out.more (Below.refl _ _).drew⟩) (fun hH => ?_)
  refine wpAnyH_take (i := 0) (oi := { dst := some 3, op := Go.Op.load 109 (Go.Operand.tmp 2), type := 109, pos := "spring.go:114", after := #[], guard := none }) (v := .pointer (some ⟨C, q * 4, none⟩)) rfl (by kernel_rfl) (by kernel_rfl) (by kernel_rfl) (fun _ _ _ h => h) (Or.inl ⟨by rfl, fun w hS => by have hcell : w.cell? ⟨A + 2, 0, none⟩ = some (.pointer (some ⟨C, q * 4, none⟩)) := (by obtain ⟨x, hx⟩ := hS.out; exact hx.a2.cell 0); go_simp⟩) hH ?_
  simp only [Act.put, List.setIfInBounds_toArray, List.set_cons_zero, List.set_cons_succ]
  refine wpAnyH_take (i := 1) (oi := { dst := some 4, op := Go.Op.load 26 (Go.Operand.tmp 0), type := 26, pos := "spring.go:114", after := #[], guard := none }) (v := .pointer (some ⟨S, 0, none⟩)) rfl (by kernel_rfl) (by kernel_rfl) (by kernel_rfl) (fun _ _ _ h => h) (Or.inl ⟨by rfl, fun w hS => by have hcell : w.cell? ⟨A, 0, none⟩ = some (.pointer (some ⟨S, 0, none⟩)) := (by obtain ⟨x, hx⟩ := hS.out; exact hx.a0.cell 0); go_simp⟩) hH ?_
  simp only [Act.put, List.setIfInBounds_toArray, List.set_cons_zero, List.set_cons_succ]
  refine wpAnyH_take (i := 2) (oi := { dst := some 5, op := Go.Op.load 3 (Go.Operand.tmp 1), type := 3, pos := "spring.go:114", after := #[], guard := none }) (v := .int .i64 q) rfl (by kernel_rfl) (by kernel_rfl) (by kernel_rfl) (fun _ _ _ h => h) (Or.inl ⟨by rfl, fun w hS => by have hcell : w.cell? ⟨A + 1, 0, none⟩ = some (.int .i64 q) := (by obtain ⟨x, hx⟩ := hS.out; exact hx.a1.cell 0); go_simp⟩) hH ?_
  simp only [Act.put, List.setIfInBounds_toArray, List.set_cons_zero, List.set_cons_succ]
  refine wpAnyH_ready (rs := [3]) (by kernel_rfl) (by simp) ?_
  refine AllReadyH.cons (o := { dst := some 6, op := Go.Op.call { callee := Go.Callee.value (Go.Operand.func 49), args := #[Go.Operand.tmp 4, Go.Operand.tmp 5], argTypes := #[26, 3] }, type := 50, pos := "spring.go:114", after := #[{ on := 1, ground := Go.Ground.data }, { on := 2, ground := Go.Ground.data }], guard := none }) rfl (fun K hK => ?_) AllReadyH.nil
  have G0 : Kp (CLs w B A S C n g mk m f q (.slice none 0 0) mk W.drew) := ⟨HC.out.more (Below.refl _ _).drew⟩
  go_simp
  refine (reckon_any m S C n g mk q W.drew G0.out.k HO.out G0.out.s (by have := HQ.out; omega)).mono ?_
  rintro r w9 ⟨v, rfl, h2, hb⟩
  have G1 : Kp (CLs w B A S C n g mk m f q (.slice none 0 0) mk w9) := ⟨G0.out.more hb⟩
  obtain ⟨av, nv, cv, rfl⟩ : ∃ a n c, v = .slice a n c := by rcases h2.2 with ⟨e9, _⟩ | ⟨g, cap, cur, e9, _⟩ <;> exact ⟨_, _, _, e9⟩
  obtain rfl : nv = m.st.toNat + 1 := ownsRow_lenS h2
  have GO : Kp (w9.ownsRow W.heap.size 43 16 (.slice av (m.st.toNat + 1) cv) (m.st.toNat + 1) (bv (elsL m q (m.st.toNat + 1)))) := ⟨h2⟩
  clear h2 hb G0 HC
  refine hK.out _ _ (⟨_, G1.out⟩) (fun hHn => ?_)
  clear hK K hH
  have hH := hHn
  clear hHn
  try simp only [Act.put, List.setIfInBounds_toArray, List.set_cons_zero, List.set_cons_succ]
  refine wpAnyH_take (i := 4) (oi := { dst := some 7, op := Go.Op.nilCheck (Go.Operand.tmp 3), type := 0, pos := "spring.go:114", after := #[{ on := 0, ground := Go.Ground.data }, { on := 0, ground := Go.Ground.phase }, { on := 1, ground := Go.Ground.phase }, { on := 2, ground := Go.Ground.phase }, { on := 3, ground := Go.Ground.phase }], guard := none }) (v := .pointer (some ⟨C, q * 4, none⟩)) rfl (by kernel_rfl) (by kernel_rfl) (by kernel_rfl) (fun _ _ _ h => h) (Or.inl ⟨by rfl, fun w hS => by first | rfl | go_simp⟩) hH ?_
  simp only [Act.put, List.setIfInBounds_toArray, List.set_cons_zero, List.set_cons_succ]
  refine wpAnyH_take (i := 5) (oi := { dst := some 8, op := Go.Op.fieldAddr 111 (Go.Operand.tmp 7) 1, type := 0, pos := "spring.go:114", after := #[{ on := 4, ground := Go.Ground.data }, { on := 0, ground := Go.Ground.phase }, { on := 1, ground := Go.Ground.phase }, { on := 2, ground := Go.Ground.phase }, { on := 3, ground := Go.Ground.phase }], guard := none }) (v := .pointer (some ⟨C, q * 4 + 3, none⟩)) rfl (by kernel_rfl) (by kernel_rfl) (by kernel_rfl) (fun _ _ _ h => h) (Or.inl ⟨by rfl, fun w hS => by first | rfl | go_simp⟩) hH ?_
  simp only [Act.put, List.setIfInBounds_toArray, List.set_cons_zero, List.set_cons_succ]
  refine wpAnyH_ready (rs := [6]) (by kernel_rfl) (by simp) ?_
  refine AllReadyH.cons (o := { dst := none, op := Go.Op.store 50 (Go.Operand.tmp 8) (Go.Operand.tmp 6), type := 0, pos := "spring.go:114", after := #[{ on := 5, ground := Go.Ground.data }, { on := 3, ground := Go.Ground.data }, { on := 3, ground := Go.Ground.chain }, { on := 0, ground := Go.Ground.phase }, { on := 1, ground := Go.Ground.phase }, { on := 2, ground := Go.Ground.phase }, { on := 3, ground := Go.Ground.phase }], guard := none }) rfl (fun K hK => ?_) AllReadyH.nil
  have q2 := G1.out.c3 HQ.out.1
  have q3 := G1.out.c.frozen (q * 4 + 3)
  go_simp
  clear q2 q3
  have G2 := Kp.mk (G1.out.put GO.out)
  refine hK.out _ _ (⟨_, G2.out.1⟩) (fun hHn => ?_)
  clear hK K hH
  have hH := hHn
  clear hHn
  try simp only [Act.put, List.setIfInBounds_toArray, List.set_cons_zero, List.set_cons_succ]
  clear hH
  refine wpAnyH_done (by kernel_rfl) ?_ _
  clear G1 GO
  generalize w9.setCell ⟨C, q * 4 + 3, none⟩ (.slice av (m.st.toNat + 1) cv) = w10 at *
  have y0 : w10.cell? ⟨A, 0, none⟩ = some (.pointer (some ⟨S, 0, none⟩)) := G2.out.1.a0.cell 0
  go_wp2_with fail
  clear y0
  have y2 := G2.out.1.s42 HO.out.l
  have y3 := G2.out.1.s.frozen 42
  refine (addOne_any ⟨S, 42, none⟩ mk w10 y2 y3 HMK.out).mono ?_
  rintro r w11 ⟨rfl, hw⟩
  have G3 := Kp.mk (CLs.add G2.out HO.out.l)
  rw [← hw] at G3
  clear hw y2 y3 G2
  go_wp2_with fail
  go_end0
  exact ⟨rfl, av, cv, G3.out⟩
end Go.Proofs.YtibbinenhmiclaaDoor
