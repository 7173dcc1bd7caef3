/-
  slate.Read.
-/
import Derived.Test.YtgikedbnnlckjaaSlI
namespace Go.Proofs.Ytgikedbnnlckjaa
open Go.RowKit Go.Shelf
attribute [local go_sem] Oper.semAt_some

set_option maxRecDepth 100000 in
set_option maxHeartbeats 2000000 in
theorem read_no (g : Nat) (v : Value) (s : SlS) (a : Int) (w : World) (h : SlIs w g v s) (he : hasE s a ≠ 0) : Calls Try.prog 14 #[slP g, .int .i64 a] w (ReadPost z64 (hasE s a) w) := by
  have H := Kp.mk h
  obtain ⟨e, hee⟩ : ∃ e, e = hasE s a := ⟨_, rfl⟩
  rw [← hee] at he ⊢
  have HE := Kp.mk hee
  have he0 : (e != 0) = true := by simp [he]
  clear h he hee
  go_enter Try.func14, Try.ntmps14
  go_wp2_with (refine wpList_alloc_row rfl 35 rfl _ _ infoz64 ?_; refine wpl_world (fun w2 => Row w2 (w.heap.size + 1) 35 .u8 z64 ∧ Blk w2 w.heap.size (.cells #[.int .i64 a] 3) ∧ Below w.heap.size w w2 ∧ w2.heap.size = w.heap.size + 2) ⟨Blk.newAt _ (by simp), (Blk.new _ _).old _, more (more (Below.refl _ _) _) _, by simp⟩ ?_; rintro W2 ⟨h1, h2, h3, h4⟩; have K1 := Kp.mk h1; have K2 := Kp.mk h2; have K3 := Kp.mk h3; have K4 := Kp.mk h4; have h2 := h2.one; clear h1 h3)
  have HR : Kp (Rd (W2.alloc (.cells #[.int .i64 0] 24)) w.heap.size a z64 0 w) := ⟨⟨K2.out.old _, K1.out.alloc _, Blk.newAt _ K4.out.symm, K3.out.alloc (by rw [K4.out]; omega) _⟩⟩
  have HI : Kp (SlIs (W2.alloc (.cells #[.int .i64 0] 24)) g v s) := ⟨H.out.keep HR.out.hb⟩
  clear h2 h4 K1 K2 K3 K4
  generalize (W2.alloc (.cells #[.int .i64 0] 24)) = W3 at HR HI ⊢
  refine (has_any g v s a _ HI.out).mono ?_
  rintro r w1 ⟨rfl, rfl⟩
  rw [← HE.out]
  have hc2 := HR.out.b2.one
  have hb0 := HR.out.b0.one
  go_wp2_with (first
    | (refine wpList_val rfl (exec_build35z rfl) ?_)
    | (refine wpList_store_row rfl 35 (.tmp 4) (.tmp 14) rfl (w.heap.size + 1) (kv .u8 z64).toArray rfl rfl 35 _ HR.out.b1 (cells64 z64_len) rfl (kv_all _ _) ?_; refine wpl_world (fun w4 => Rd w4 w.heap.size a z64 0 w) (HR.out.box z64) ?_; intro W4 h4; have K5 := Kp.mk h4; clear h4 hc2 hb0; have hc3 := K5.out.b2.one))
  refine bodyPost_ret (results_row_cell rfl _ _ (w.heap.size + 1) (w.heap.size + 2) 35 24 _ (0, 0) _ _ rfl rfl (K5.out.err e).b1 (K5.out.err e).b2 Try.underlying35 rfl (cells64 z64_len) (load24 _ _)) rfl ⟨rfl, (K5.out.err e).hb⟩

/-- PARTS -/
def NoP (Q : Exit → Act → World → Prop) : Exit → Act → World → Prop
  | .panic _, _, _ => False
  | e, a, w => Q e a w
theorem NoP.wp {P : Program} {c : Code} {Q : Exit → Act → World → Prop} {a : Act} {w : World} (h : c.wp P (NoP Q) a w) : c.wp P Q a w := Code.wp_mono (by intro e a w hh; cases e <;> first | exact hh | exact hh.elim) h
theorem NoP.normal {Q : Exit → Act → World → Prop} {a : Act} {w : World} (h : Q .normal a w) : NoP Q .normal a w := h
theorem Rd.drew {w : World} {B : Nat} {a e : Int} {z : List Int} {w0 : World} (h : Rd w B a z e w0) : Rd w.drew B a z e w0 := ⟨h.b0, h.b1, h.b2, ⟨h.hb.os, h.hb.tape, h.hb.output, h.hb.size, h.hb.block⟩⟩
theorem Blk.turned {w w' : World} {b : Nat} {cs : Array Value} {t : TypeId} {fr : Nat × Nat} {row : Option Nat} (h : Blk w b (.cells cs t fr)) (hg : w.grownBy w' row) (hr : ∀ r, row = some r → ∃ o : Obj, w.heap[r]? = some o ∧ o.isCells = false) : Blk w' b (.cells cs t fr) :=
  (hg.block b h.lt (fun e => by
    obtain ⟨o, ho, hc⟩ := hr b e.symm
    rw [show w.heap[b]? = _ from h] at ho
    cases ho
    cases hc)).trans h
theorem Rd.turned {w w' : World} {B N : Nat} {a e : Int} {z : List Int} {w0 : World} {row : Option Nat} (h : Rd w B a z e w0) (hN : B ≤ N) (hg : w.grownBy w' row) (hr : ∀ r, row = some r → N ≤ r ∧ ∃ o : Obj, w.heap[r]? = some o ∧ o.isCells = false) : Rd w' B a z e w0 :=
  ⟨Blk.turned h.b0 hg (fun r e => (hr r e).2), Blk.turned h.b1 hg (fun r e => (hr r e).2), Blk.turned h.b2 hg (fun r e => (hr r e).2), h.hb.grown hg (by have := h.b0.lt; omega) (fun r e => by have := (hr r e).1; omega)⟩
theorem wpListIn_store_row {F : Fence} {n : Nat} {P : Program} {ops : Array Oper} {rest : List Oper} {o : Oper} {a : Act} {w : World} {Q : Exit → Act → World → Prop} (hgd : o.guard = none) (hs : o.semAt F.round a.eval = execOp a.eval o) (hab : o.about P w a.eval = none) (ty : TypeId) (x y : Operand) (ho : o.op = .store ty x y)
    (g : Nat) (cells : Array Value) (hx : a.eval x = .pointer (some ⟨g, 0, none⟩)) (hy : a.eval y = .agg cells)
    (t : TypeId) (old : Array Value) (hg : w.heap[g]? = some (.cells old t (0, 0))) (hi : (P.info? ty).map (·.size) = some cells.size)
    (hold : old.size = cells.size) (h1 : cells.all (·.oneCell') = true)
    (h : wpListIn F n P ops Q rest (a.put o.dst undef) (w.setRow g cells)) : wpListIn F n P ops Q (o :: rest) a w := by
  refine wpListIn_plain hgd fun K hK => ?_
  unfold Oper.wpIn
  refine ⟨fun f hf => (by rw [hab] at hf; cases hf), ?_⟩
  rw [hs]
  unfold execOp
  simp only [ho, hx, hy, Instr.storeAt, Instr.sureAddr, Sem.run_bind, Sem.run_pure, Result.andThen_ok, run_storeVar_row w g t ty old cells hg hi hold h1]
  exact hK _ _ h
theorem wpListIn_alloc_row {F : Fence} {n : Nat} {P : Program} {ops : Array Oper} {rest : List Oper} {o : Oper} {a : Act} {w : World} {Q : Exit → Act → World → Prop} (hg : o.guard = none) (hs : o.semAt F.round a.eval = execOp a.eval o) (hab : o.about P w a.eval = none) (t : TypeId) (ho : o.op = .alloc t)
    (cs : Array Value) (n' : Nat) (hi : (P.info? t).map (fun i => (i.zero, i.size)) = some (some (.agg cs), n')) (hd : ∃ d, o.dst = some d)
    (h : wpListIn F n P ops Q rest (a.put o.dst (.pointer (some ⟨w.heap.size, 0, none⟩))) (w.alloc (.cells cs t))) : wpListIn F n P ops Q (o :: rest) a w := by
  refine wpListIn_val hg hab hs ?_ h
  obtain ⟨d, hd⟩ := hd
  unfold execOp
  simp only [ho, hd, Option.isSome_some, Sem.run_bind, alloc_row hi, Result.andThen_ok, Sem.run_pure]
theorem wplIn_world {F : Fence} {n : Nat} {P : Program} {ops : Array Oper} {l : List Oper} {Q : Exit → Act → World → Prop} {a : Act} {w : World} (p : World → Prop) (hp : p w) (h : ∀ w2, p w2 → wpListIn F n P ops Q l a w2) : wpListIn F n P ops Q l a w := h w hp
theorem RdEnd {w W : World} {k : Int} {z zr : List Int} {tmps : Array Value} (h : Rd W w.heap.size k z 0 w) (hz : z.length = 64) (hr : zr = z) (h4 : tmps.getD 4 undef = .pointer (some ⟨w.heap.size + 1, 0, none⟩) := by rfl) (h5 : tmps.getD 5 undef = .pointer (some ⟨w.heap.size + 2, 0, none⟩) := by rfl) :
    LeavesInM Fence.wide 5 Try.prog Try.f14 tmps (ReadPost zr 0 w) [] .returning W := by
  rw [hr]
  exact ⟨_, results_row_cell rfl _ _ (w.heap.size + 1) (w.heap.size + 2) 35 24 _ (0, 0) _ _ h4 h5 h.b1 h.b2 Try.underlying35 rfl (cells64 hz) (load24 _ _), rfl, h.hb⟩
theorem fold2 (T : Array Value) (A B : Value) : ((#[21, 22] : Array Tmp).zip #[A, B]).foldl (fun t (p, v) => t.setIfInBounds p v) T = (T.setIfInBounds 21 A).setIfInBounds 22 B := by simp
/-- What came so far isn't of sector k. -/
def NoK (k : Nat) (pre : List QE) : Prop := ∀ p ∈ pre, p.1.2.1 ≠ k
def HitK (k : Nat) (z : List Int) (pre : List QE) : Prop := ∃ ini last, pre = ini ++ [last] ∧ NoK k ini ∧ last.1.2.1 = k ∧ last.1.2.2 = z
theorem NoK.snoc {k : Nat} {pre : List QE} {x : QE} (h : NoK k pre) (hx : x.1.2.1 ≠ k) : NoK k (pre ++ [x]) := fun p hp => (List.mem_append.1 hp).elim (h p) (fun e => by rw [List.mem_singleton.1 e]; exact hx)
theorem backL_map (q : List (Nat × List Int)) (hq : ∀ x ∈ q, x.2.length = 64) : ∀ k, k ≤ q.length → (backL q hq k).map (fun p => p.1.2) = q.reverse.take k
  | 0, _ => rfl
  | k + 1, h => by
    have hk : k < q.reverse.length := by rw [List.length_reverse]; omega
    rw [backL_succ (m := q.length - 1 - k) (by omega), List.map_append, backL_map q hq k (by omega), List.take_add_one, List.getElem?_eq_getElem hk, List.getElem_reverse]
    simp [qAt_get (q := q) (i := q.length - 1 - k) (by omega)]
theorem readL_no {s : SlS} {k : Nat} {hq : ∀ x ∈ s.q, x.2.length = 64} (h : NoK k (backL s.q hq s.q.length)) : readL s k = (s.ls.drop (k * 64)).take 64 := by
  have e := backL_map s.q hq s.q.length (Nat.le_refl _)
  rw [List.take_of_length_le (by simp)] at e
  have hf : s.q.reverse.find? (fun x => x.1 == k) = none := by
    rw [List.find?_eq_none]
    intro x hx
    rw [← e] at hx
    obtain ⟨p, hp, rfl⟩ := List.mem_map.1 hx
    simpa using h p hp
  unfold readL
  rw [hf]
theorem readL_hit {s : SlS} {k j : Nat} {z : List Int} {hq : ∀ x ∈ s.q, x.2.length = 64} (hj : j ≤ s.q.length) (h : HitK k z (backL s.q hq j)) : readL s k = z := by
  have e := backL_map s.q hq j hj
  obtain ⟨ini, last, h1, h2, h3, h4⟩ := h
  rw [h1, List.map_append] at e
  have hf : (s.q.reverse.take j).find? (fun x => x.1 == k) = some last.1.2 := by
    rw [← e, List.find?_append]
    have : (ini.map (fun p => p.1.2)).find? (fun x => x.1 == k) = none := by
      rw [List.find?_eq_none]
      intro x hx
      obtain ⟨p, hp, rfl⟩ := List.mem_map.1 hx
      simpa using h2 p hp
    rw [this]
    simp [h3]
  have hf2 : s.q.reverse.find? (fun x => x.1 == k) = some last.1.2 := by
    rw [← List.take_append_drop j s.q.reverse, List.find?_append, hf]
    rfl
  unfold readL
  rw [hf2]
  exact h4
set_option maxRecDepth 100000 in
set_option maxHeartbeats 2000000 in
theorem read_yes (g k : Nat) (v : Value) (s : SlS) (w : World) (h : SlIs w g v s) (he : hasE s k = 0) (hq : s.q.length ≤ 1000000) : Calls Try.prog 14 #[slP g, .int .i64 k] w (ReadPost (readL s k) 0 w) := by
  have H := Kp.mk h
  have HE := Kp.mk he
  have HQ := Kp.mk hq
  have HK : Kp (k < s.n) := ⟨by have := (hasE_zero he).2.2; omega⟩
  clear h he hq
  refine callsIn_wide.1 (callsIn_of_wp_marks (n := 5) (F := Fence.wide) Try.func14 rfl trivial (wpIn_wide.2 ?_) rfl)
  simp only [Try.ntmps14, List.size_toArray, List.length_cons, List.length_nil, Nat.reduceAdd, Nat.reduceSub, Array.replicate_succ, Array.replicate_zero, List.push_toArray, List.append_toArray, List.nil_append, List.cons_append]
  go_wp2_with (refine wpList_alloc_row rfl 35 rfl _ _ infoz64 ?_; refine wpl_world (fun w2 => Row w2 (w.heap.size + 1) 35 .u8 z64 ∧ Blk w2 w.heap.size (.cells #[.int .i64 k] 3) ∧ Below w.heap.size w w2 ∧ w2.heap.size = w.heap.size + 2) ⟨Blk.newAt _ (by simp), (Blk.new _ _).old _, more (more (Below.refl _ _) _) _, by simp⟩ ?_; rintro W2 ⟨h1, h2, h3, h4⟩; have K1 := Kp.mk h1; have K2 := Kp.mk h2; have K3 := Kp.mk h3; have K4 := Kp.mk h4; have h2 := h2.one; clear h1 h3)
  have HR : Kp (Rd (W2.alloc (.cells #[.int .i64 0] 24)) w.heap.size k z64 0 w) := ⟨⟨K2.out.old _, K1.out.alloc _, Blk.newAt _ K4.out.symm, K3.out.alloc (by rw [K4.out]; omega) _⟩⟩
  have HI : Kp (SlIs (W2.alloc (.cells #[.int .i64 0] 24)) g v s) := ⟨H.out.keep HR.out.hb⟩
  clear h2 h4 K1 K2 K3 K4
  generalize (W2.alloc (.cells #[.int .i64 0] 24)) = W3 at HR HI ⊢
  refine (has_any g v s k _ HI.out).mono ?_
  rintro r w1 ⟨rfl, rfl⟩
  rw [HE.out]
  obtain ⟨⟨c0, c1, c2, c3, c4⟩, -⟩ := HI.out.cells
  obtain ⟨qa, qc, hve⟩ := HI.out.slice
  rw [hve] at c1
  have HVE := Kp.mk hve
  obtain ⟨ql, hql⟩ : ∃ ql, ql = s.q.length := ⟨_, rfl⟩
  rw [← hql] at c1
  have HQL := Kp.mk hql
  clear hve hql
  go_wp2_with fail
  refine (backward_any _ _ _ _).mono ?_
  rintro r w1 ⟨rfl, rfl⟩
  have HR4 : Kp (Rd (W3.alloc (.cells #[.slice qa ql qc] 70)) w.heap.size k z64 0 w) := ⟨⟨HR.out.b0.old _, HR.out.b1.alloc _, HR.out.b2.old _, HR.out.hb.alloc (by have := HR.out.b2.lt; omega) _⟩⟩
  have HI4 : Kp (SlIs (W3.alloc (.cells #[.slice qa ql qc] 70)) g v s) := ⟨HI.out.alloc _⟩
  have HB4 : Kp (Blk (W3.alloc (.cells #[.slice qa ql qc] 70)) W3.heap.size (.cells #[.slice qa ql qc] 70)) := ⟨Blk.new _ _⟩
  obtain ⟨Bs, hBs⟩ : ∃ Bs, Bs = W3.heap.size := ⟨_, rfl⟩
  rw [← hBs] at HB4 ⊢
  clear c0 c1 c2 c3 c4 hBs
  generalize (W3.alloc (.cells #[.slice qa ql qc] 70)) = W4 at HR4 HI4 HB4 ⊢
  clear HR HI
  go_wp2_with fail
  -- THE LOOP
  have hq64 : Kp (∀ x ∈ s.q, x.2.length = 64) := ⟨fun x hx => (H.out.k.qq x hx).2.1⟩
  obtain ⟨zl, hzl⟩ : ∃ zl, zl = (s.ls.drop (k * 64)).take 64 := ⟨_, rfl⟩
  have HZE := Kp.mk hzl
  have HZL : Kp (zl.length = 64) := ⟨by rw [hzl, List.length_take, List.length_drop, H.out.k.ll]; have := HK.out; omega⟩
  clear hzl
  have hv : (∃ a c, Value.slice qa ql qc = .slice a 0 c ∧ s.q = []) ∨ ∃ qb cap, Value.slice qa ql qc = .slice (some ⟨qb, 0, none⟩) s.q.length cap ∧ qb < W4.heap.size ∧ ∀ j, j < s.q.length → W4.rangeAt qb (j * 65) (wcells (qAt s.q j)) := by
    rw [HQL.out]
    cases hqe : s.q with
    | nil => exact .inl ⟨_, _, rfl, rfl⟩
    | cons x r =>
      rw [← hqe]
      have h0 : 0 < s.q.length := by rw [hqe]; simp
      obtain ⟨qb, cap, e, -, -, hlt, -⟩ := HI4.out.at h0
      rw [← HVE.out]
      refine .inr ⟨qb, cap, e, hlt, fun j hj => ?_⟩
      obtain ⟨qb2, cap2, e2, -, -, -, hr⟩ := HI4.out.at hj
      rw [e] at e2
      cases e2
      rw [qAt_get hj]
      exact hr
  have HST := Kp.mk (back_stops (5 - 1) Bs (.slice qa ql qc) s.q hq64.out HQ.out W4 HB4.out.lt HB4.out.one.1 hv)
  clear hv
  refine (wpIn_wide (n := 5)).1 (wpIn_rangeFunc_ownH (F := Fence.wide) rfl (by omega) (gf := 54) (lb := #[.pointer (some ⟨Bs, 0, none⟩)]) rfl trivial (enters_of Try.func54 (by kernel_rfl) rfl)
    HST.out belowK_t (belowK_b (Nat.le_refl _)) (Below.refl _ _) (fun _ => rfl)
    (fun pre W => NoK k pre ∧ Below W4.heap.size W4 W)
    (fun c pre W => (c = .ret ∧ ∃ z, z.length = 64 ∧ HitK k z pre ∧ Rd W w.heap.size k z 0 w))
    (OwnFrom.and (fun _ _ _ _ hs _ _ => hs) (ownFrom_below (Nat.le_refl _) (Nat.le_refl _)))
    (fun c => fun s X Y row hs hg hr => by obtain ⟨e1, z, hz, e2, e3⟩ := hs; exact ⟨e1, z, hz, e2, e3.turned (N := W4.heap.size) (by have := HR4.out.b0.lt; omega) hg hr⟩)
    ⟨(fun p hp => by cases hp), Below.refl _ _⟩
    (fun x a' W => ∃ Bx, W4.heap.size ≤ Bx ∧ Blk W Bx (.cells (wcells x.1.2).toArray 82) ∧ a' = { tmps := #[slP g, .int .i64 k, undef, .pointer (some ⟨w.heap.size, 0, none⟩), .pointer (some ⟨w.heap.size + 1, 0, none⟩), .pointer (some ⟨w.heap.size + 2, 0, none⟩), .int .i64 0, undef, .pointer (some ⟨Bx, 0, none⟩), slP g, .int .i64 k, .int .i64 0, .int .i64 0, .bool false, undef, undef, slP g, .pointer (some ⟨g + 1, 0, none⟩), .pointer (some ⟨g + 1, 1, none⟩), .slice qa ql qc, .func (.func 54) #[] #[.pointer (some ⟨Bs, 0, none⟩)], .int .i64 (x.1.1 : Int), .agg (wcells x.1.2).toArray, undef, undef, undef, undef, undef, undef, undef, undef, undef, undef, undef, undef, undef], defers := [] })
    (fun x a' => fun _ X Y row hs hg hr => by obtain ⟨Bx, h1, h2, h3⟩ := hs; exact ⟨Bx, h1, Blk.turned h2 hg (fun r e => (hr r e).2), h3⟩) ?assign ?body ?done ?stop)
  case assign =>
    rintro l pre x W K ⟨hn, hbw⟩ hK
    have HKK := Kp.mk hK
    have HN := Kp.mk hn
    have HB := Kp.mk hbw
    have HW65 : Kp ((wcells x.1.2).length = 65) := ⟨by have := wcells_len (k := x.1.2.1) x.2; simpa using this⟩
    have HI65 : Kp ((Try.prog.info? 82).map (·.size) = some (wcells x.1.2).toArray.size) := ⟨by rw [List.size_toArray, HW65.out]; exact info82s⟩
    have HZ65 : Kp (z82.toArray.size = (wcells x.1.2).toArray.size) := ⟨by rw [List.size_toArray, List.size_toArray, HW65.out, z82_len]⟩
    have HA65 : Kp ((wcells x.1.2).toArray.all (·.oneCell') = true) := ⟨all_oneCell_toArray (wcells_one x.1.2)⟩
    clear hK hn hbw
    unfold encQ
    rw [fold2]
    simp only [List.setIfInBounds_toArray, List.set_cons_succ, List.set_cons_zero]
    refine wpIn_region_lit ?_
    refine wpListIn_alloc_row rfl rfl rfl 82 rfl _ _ infoz82 ⟨_, rfl⟩ ?_
    refine wplIn_world (· = W.alloc (.cells z82.toArray 82)) rfl ?_
    intro W5 e5
    have HE5 := Kp.mk e5
    clear e5
    refine wpListIn_store_row rfl rfl rfl 82 (.tmp 8) (.tmp 22) rfl W.heap.size (wcells x.1.2).toArray rfl rfl 82 z82.toArray (by rw [HE5.out]; exact Blk.new _ _) HI65.out HZ65.out HA65.out ?_
    refine wpListIn_nil ?_
    have HX : Kp (Below W.heap.size W (W5.setRow W.heap.size (wcells x.1.2).toArray)) := ⟨by rw [HE5.out]; exact Below.row (more (Below.refl _ _) _) (Nat.le_refl _) _⟩
    refine HKK.out _ _ ?_ ?_ ⟨HN.out, ?_⟩ ⟨W.heap.size, HB.out.size, ?_, rfl⟩
    · exact ⟨HX.out.size, fun j o _ hj _ => (HX.out.block j (Array.getElem?_eq_some_iff.1 hj).1).trans hj⟩
    · exact HX.out.mono HB.out.size
    · exact HB.out.trans (HX.out.mono HB.out.size)
    · rw [HE5.out]; exact Blk.setRow (Blk.new _ _) _
  case body =>
    rintro l pre x a' W hl - ⟨hn, hbw⟩ ⟨Bx, hBx, hX, rfl⟩ hlen
    have HN := Kp.mk hn
    have HB := Kp.mk hbw
    have HX := Kp.mk hX
    have HXl := Kp.mk hBx
    have HR5 : Kp (Rd W w.heap.size k z64 0 w) := ⟨⟨Blk.upto HR4.out.b0 hbw HR4.out.b0.lt, HR4.out.b1.upto hbw HR4.out.b1.lt, Blk.upto HR4.out.b2 hbw HR4.out.b2.lt, HR4.out.hb.trans (hbw.mono (by have := HR4.out.b0.lt; omega))⟩⟩
    have hc0 := HR5.out.b0.one
    have hcx : W.cell? ⟨Bx, 0, none⟩ = some (.int .i64 (x.1.2.1 : Nat)) := by rw [hX.cell 0]; rfl
    have hc2 := HR5.out.b2.one
    have HM := Kp.mk (wcells_mid (k := x.1.2.1) (z := x.1.2.2) hX)
    obtain ⟨xk, hxk⟩ : ∃ xk, xk = x.1.2.1 := ⟨_, rfl⟩
    rw [← hxk] at hcx
    have HXK := Kp.mk hxk
    clear hn hbw hX hBx hxk hlen
    by_cases hkk : xk = k
    · have HZX : Kp (x.1.2.2.length = 64) := ⟨x.2⟩
      have he1 : ((xk : Int) == (k : Int)) = true := by rw [hkk]; simp
      have HKK := Kp.mk hkk
      clear hkk
      gi_wp2_with (first
        | (refine wpListIn_load_mid rfl rfl rfl 35 (.tmp 27) rfl Bx 1 rfl (kv .u8 x.1.2.2) _ HM.out Try.underlying35 rfl (cells35L HZX.out) ?_)
        | (refine wpListIn_store_row rfl rfl rfl 35 (.tmp 4) (.tmp 28) rfl (w.heap.size + 1) (kv .u8 x.1.2.2).toArray rfl rfl 35 _ HR5.out.b1 (cells64 HZX.out) (by rw [kv_size, kv_size, HZX.out, z64_len]) (kv_all _ _) ?_; refine wplIn_world (· = W.setRow (w.heap.size + 1) (kv .u8 x.1.2.2).toArray) rfl ?_; intro W5 e5; have HE5 := Kp.mk e5; have h5 : Rd W5 w.heap.size k x.1.2.2 0 w := (by rw [e5]; exact HR5.out.box _); have HR6 := Kp.mk h5; clear e5 hc2 hc0 hcx; have hc2 := h5.b2.one; clear h5))
      refine ⟨⟨?_, fun j o hj ho hc => ?_⟩, rfl, x.1.2.2, HZX.out, ⟨pre, x, rfl, HN.out, by rw [← HXK.out]; exact HKK.out, rfl⟩, HR6.out.err 0⟩
      · rw [HE5.out]; simp [World.setCell, World.setRow]
      · have := HR5.out.b2.lt
        have hj2 := HXl.out
        rw [HE5.out]
        have hjw : w.heap.size + 2 < j := by have := HR4.out.b2.lt; omega
        exact (Below.heap_setCell _ _ _ _ (by simp; omega)).trans ((setRow_other _ _ _ _ (by omega)).trans ho)
    · have he1 : ((xk : Int) == (k : Int)) = false := by simp; omega
      have HKK := Kp.mk hkk
      clear hkk
      gi_wp2
      exact ⟨KeepsFrom.refl _ _, Below.refl _ _, HN.out.snoc (by rw [← HXK.out]; exact HKK.out), HB.out⟩
  case done =>
    rintro D ys W hD rfl ⟨hn, hbw⟩ hK
    have HKD : Kp (W.heap[D]? = some (.deferred (some []))) := ⟨hK⟩
    have HRL : Kp (readL s k = zl) := ⟨by rw [HZE.out]; exact readL_no hn⟩
    have HDl : Kp (w.heap.size + 2 < D) := ⟨by have := HR4.out.b2.lt; omega⟩
    have HRW : Kp (Rd W w.heap.size k z64 0 w) := ⟨⟨Blk.upto HR4.out.b0 hbw HR4.out.b0.lt, HR4.out.b1.upto hbw HR4.out.b1.lt, Blk.upto HR4.out.b2 hbw HR4.out.b2.lt, HR4.out.hb.trans (hbw.mono (by have := HR4.out.b0.lt; omega))⟩⟩
    clear hn hbw hK hD
    go_wp2_with fail
    refine NoP.wp ?_
    refine wp_region_held_drew (S := fun w' => (∃ z e, Rd w' w.heap.size k z e w) ∧ w'.heap[D]? = some (.deferred (some []))) (by kernel_rfl) (⟨⟨_, _, HRW.out.drew⟩, HKD.out⟩) (fun hH => ?_)
    refine wpAnyH_take (i := 0) (oi := { dst := some 29, op := Go.Op.move (Go.Operand.tmp 0), type := 23, pos := "slate.go:81", after := #[], guard := none }) (v := slP g) rfl (by kernel_rfl) (by kernel_rfl) (by kernel_rfl) (fun _ _ _ h => h) (Or.inl ⟨by rfl, fun w hS => by first | rfl | go_simp⟩) hH ?_
    simp only [Act.put, List.setIfInBounds_toArray, List.set_cons_zero, List.set_cons_succ]
    refine wpAnyH_take (i := 1) (oi := { dst := some 30, op := Go.Op.nilCheck (Go.Operand.tmp 29), type := 0, pos := "slate.go:81", after := #[{ on := 0, ground := Go.Ground.data }], guard := none }) (v := slP g) rfl (by kernel_rfl) (by kernel_rfl) (by kernel_rfl) (fun _ _ _ h => h) (Or.inl ⟨by rfl, fun w hS => by first | rfl | go_simp⟩) hH ?_
    simp only [Act.put, List.setIfInBounds_toArray, List.set_cons_zero, List.set_cons_succ]
    refine wpAnyH_take (i := 2) (oi := { dst := some 31, op := Go.Op.fieldAddr 72 (Go.Operand.tmp 30) 0, type := 0, pos := "slate.go:81", after := #[{ on := 1, ground := Go.Ground.data }], guard := none }) (v := .pointer (some ⟨g + 1, 0, none⟩)) rfl (by kernel_rfl) (by kernel_rfl) (by kernel_rfl) (fun _ _ _ h => h) (Or.inl ⟨by rfl, fun w hS => by first | rfl | go_simp⟩) hH ?_
    simp only [Act.put, List.setIfInBounds_toArray, List.set_cons_zero, List.set_cons_succ]
    refine wpAnyH_take (i := 3) (oi := { dst := some 32, op := Go.Op.load 69 (Go.Operand.tmp 31), type := 69, pos := "slate.go:81", after := #[{ on := 2, ground := Go.Ground.data }], guard := none }) (v := .slice (some ⟨g, 0, none⟩) s.n s.n) rfl (by kernel_rfl) (by kernel_rfl) (by kernel_rfl) (fun _ _ _ h => h) (Or.inl ⟨by rfl, fun w hS => by obtain ⟨⟨z, e, h⟩, -⟩ := hS; have h1 := (H.out.keep h.hb).cells.1.1; go_simp⟩) hH ?_
    simp only [Act.put, List.setIfInBounds_toArray, List.set_cons_zero, List.set_cons_succ]
    refine wpAnyH_take (i := 4) (oi := { dst := some 33, op := Go.Op.load 3 (Go.Operand.tmp 3), type := 3, pos := "slate.go:81", after := #[], guard := none }) (v := .int .i64 (k : Nat)) rfl (by kernel_rfl) (by kernel_rfl) (by kernel_rfl) (fun _ _ _ h => h) (Or.inl ⟨by rfl, fun w hS => by obtain ⟨⟨z, e, h⟩, -⟩ := hS; have h1 := h.b0.one; go_simp⟩) hH ?_
    simp only [Act.put, List.setIfInBounds_toArray, List.set_cons_zero, List.set_cons_succ]
    refine wpAnyH_take (i := 5) (oi := { dst := some 34, op := Go.Op.indexAddr 69 (Go.Operand.tmp 32) (Go.Operand.tmp 33), type := 0, pos := "slate.go:81", after := #[{ on := 3, ground := Go.Ground.data }, { on := 4, ground := Go.Ground.data }], guard := none }) (v := .pointer (some ⟨g, k * 64, none⟩)) rfl (by kernel_rfl) (by kernel_rfl) (by kernel_rfl) (fun _ _ _ h => h) (Or.inl ⟨by rfl, fun w hS => by have h1 := HK.out; have h2 : (k : Int) < (s.n : Int) := (by omega); go_simp⟩) hH ?_
    simp only [Act.put, List.setIfInBounds_toArray, List.set_cons_zero, List.set_cons_succ]
    refine wpAnyH_take (i := 6) (oi := { dst := some 35, op := Go.Op.load 35 (Go.Operand.tmp 34), type := 35, pos := "slate.go:81", after := #[{ on := 5, ground := Go.Ground.data }], guard := none }) (v := sec zl) rfl (by kernel_rfl) (by kernel_rfl) (by kernel_rfl) (fun _ _ _ h => h) (Or.inl ⟨by rfl, fun w hS => by obtain ⟨⟨z, e, h⟩, -⟩ := hS; rw [HZE.out]; exact exec_load_mid rfl rfl ((H.out.keep h.hb).r.mid (by have := HK.out; have := H.out.k.ll; omega)) Try.underlying35 rfl (cells35L (by rw [← HZE.out]; exact HZL.out))⟩) hH ?_
    simp only [Act.put, List.setIfInBounds_toArray, List.set_cons_zero, List.set_cons_succ]
    refine wpAnyH_ready (rs := [7]) (by kernel_rfl) (by simp) ?_
    refine AllReadyH.cons (o := { dst := none, op := Go.Op.store 35 (Go.Operand.tmp 4) (Go.Operand.tmp 35), type := 0, pos := "slate.go:81", after := #[{ on := 6, ground := Go.Ground.data }, { on := 0, ground := Go.Ground.phase }, { on := 1, ground := Go.Ground.phase }, { on := 2, ground := Go.Ground.phase }, { on := 3, ground := Go.Ground.phase }, { on := 4, ground := Go.Ground.phase }, { on := 5, ground := Go.Ground.phase }, { on := 6, ground := Go.Ground.phase }], guard := none }) rfl (fun K hK => ?_) AllReadyH.nil
    rw [if_pos (by rfl)]
    refine wp_store_row 35 (.tmp 4) (.tmp 35) rfl (w.heap.size + 1) (kv .u8 zl).toArray rfl rfl 35 _ HRW.out.drew.b1 (cells64 HZL.out) (by rw [kv_size, kv_size, HZL.out, z64_len]) (kv_all _ _) ?_
    refine hK.out _ _ (⟨⟨_, _, HRW.out.drew.box zl⟩, (setRow_other _ _ _ _ (by have := HDl.out; omega)).trans HKD.out⟩) (fun hHn => ?_)
    clear hK K hH
    have hH := hHn
    clear hHn
    try simp only [Act.put, List.setIfInBounds_toArray, List.set_cons_zero, List.set_cons_succ]
    refine wpAnyH_ready (rs := [8]) (by kernel_rfl) (by simp) ?_
    refine AllReadyH.cons (o := { dst := none, op := Go.Op.store 24 (Go.Operand.tmp 5) (Go.Operand.const (Go.Value.int Go.IntKind.i64 0)), type := 0, pos := "slate.go:81", after := #[{ on := 7, ground := Go.Ground.chain }, { on := 0, ground := Go.Ground.phase }, { on := 1, ground := Go.Ground.phase }, { on := 2, ground := Go.Ground.phase }, { on := 3, ground := Go.Ground.phase }, { on := 4, ground := Go.Ground.phase }, { on := 5, ground := Go.Ground.phase }, { on := 6, ground := Go.Ground.phase }, { on := 7, ground := Go.Ground.phase }], guard := none }) rfl (fun K hK => ?_) AllReadyH.nil
    have hc2 := (HRW.out.drew.box zl).b2.one
    go_simp
    clear hc2
    refine hK.out _ _ (⟨⟨_, _, (HRW.out.drew.box zl).err 0⟩, (Below.heap_setCell _ _ _ _ (by simp; have := HDl.out; omega)).trans ((setRow_other _ _ _ _ (by have := HDl.out; omega)).trans HKD.out)⟩) (fun hHn => ?_)
    clear hK K hH
    have hH := hHn
    clear hHn
    try simp only [Act.put, List.setIfInBounds_toArray, List.set_cons_zero, List.set_cons_succ]
    clear hH
    refine wpAnyH_done (by kernel_rfl) ?_ _
    have HREND := Kp.mk ((HRW.out.drew.box zl).err 0)
    have HKE : Kp (((W.drew.setRow (w.heap.size + 1) (kv .u8 zl).toArray).setCell ⟨w.heap.size + 2, 0, none⟩ (.int .i64 0)).heap[D]? = some (.deferred (some []))) := ⟨(Below.heap_setCell _ _ _ _ (by simp; have := HDl.out; omega)).trans ((setRow_other _ _ _ _ (by have := HDl.out; omega)).trans HKD.out)⟩
    refine NoP.normal ?_
    go_wp2_with fail
    refine ⟨by simp, .inl ⟨_, _, rfl, run_takeDeferred HKE.out, ?_⟩⟩
    exact RdEnd (HREND.out.turned (N := w.heap.size + 2 + 1) (by omega) (grownBy_putObj' _ D (.deferred none)) (fun r e => by cases e; exact ⟨by have := HDl.out; omega, _, HKE.out, rfl⟩)) HZL.out HRL.out
  case stop =>
    rintro D c pre W hD ⟨j, hj, rfl⟩ ⟨rfl, z, hz, hh, hr⟩ hK
    have HRL := Kp.mk (readL_hit hj hh)
    have HRW := Kp.mk hr
    have HKD : Kp (W.heap[D]? = some (.deferred (some []))) := ⟨hK⟩
    have HDl : Kp (w.heap.size + 2 < D) := ⟨by have := HR4.out.b2.lt; omega⟩
    have HZ := Kp.mk hz
    clear hh hr hK hz hD
    refine wpIn_wide.2 ?_
    go_wp2_with fail
    refine ⟨by simp, .inl ⟨_, _, rfl, run_takeDeferred HKD.out, ?_⟩⟩
    exact RdEnd (HRW.out.turned (N := w.heap.size + 2 + 1) (by omega) (grownBy_putObj' _ D (.deferred none)) (fun r e => by cases e; exact ⟨by have := HDl.out; omega, _, HKD.out, rfl⟩)) HZ.out HRL.out
end Go.Proofs.Ytgikedbnnlckjaa
