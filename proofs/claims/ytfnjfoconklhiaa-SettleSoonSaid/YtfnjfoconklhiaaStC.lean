/-
  Rows of opaque cells; a plan's New, settled, and what its walks ask of news.
-/
import Derived.Test.YtfnjfoconklhiaaStB
import Derived.Deep.MidRow
import Derived.Laws.CopyOwn
namespace Go.Proofs.Ytfnjfoconklhiaa
open Go.RowKit

theorem alloc_row {P : Program} {t : TypeId} {cs : Array Value} {n : Nat} (hi : (P.info? t).map (fun i => (i.zero, i.size)) = some (some (.agg cs), n)) (old : Value) (w : World) :
    (Instr.alloc t true old).run P w = .ok (.pointer (some ⟨w.heap.size, 0, none⟩)) (w.alloc (.cells cs t)) := by
  cases hq : P.info? t with
  | none => simp [hq] at hi
  | some i =>
    have hz : i.zero = some (.agg cs) := by simp [hq] at hi; exact hi.1
    unfold Instr.alloc
    simp [zeroValue, typeInfo, hq, hz, newVar, newRow, Value.cells]
theorem wpList_alloc_row {P : Program} {ops : Array Oper} {rest : List Oper} {o : Oper} {a : Act} {w : World} {Q : Exit → Act → World → Prop} (hg : o.guard = none) (t : TypeId) (ho : o.op = .alloc t)
    (cs : Array Value) (n : Nat) (hi : (P.info? t).map (fun i => (i.zero, i.size)) = some (some (.agg cs), n))
    (h : wpList P ops Q rest (a.put o.dst (.pointer (some ⟨w.heap.size, 0, none⟩))) (w.alloc (.cells cs t))) : wpList P ops Q (o :: rest) a w := by
  refine wpList_plain hg fun _ hK => ?_
  unfold Oper.wp execOp
  simp only [ho, Sem.run_bind, alloc_row hi, Result.andThen_ok, Sem.run_pure]
  exact hK _ _ h
theorem box_row {t : TypeId} {cs : List Value} (h1 : (Try.prog.info? t).map (·.size) = some cs.toArray.size) (w : World) : (Instr.box t (.agg cs.toArray)).run Try.prog w = .ok (.pointer (some ⟨w.heap.size, 0, none⟩)) (w.alloc (.cells cs.toArray t)) := by
  cases hq : Try.prog.info? t with
  | none => simp [hq] at h1
  | some i =>
    have hi : i.size = cs.toArray.size := by simpa [hq] using h1
    simp [Instr.box, newVar, sizeOf, typeInfo, hq, hi, Value.cells, newRow]
theorem wpList_box_eq {P : Program} {w : World} {ops : Array Oper} {rest : List Oper} {o : Oper} {a : Act} {Q : Exit → Act → World → Prop} (hg : o.guard = none) (t : TypeId) (x : Operand) (ho : o.op = .box t x)
    (u : Value) (hx : a.eval x = u) (v : Value) (w' : World) (hrun : (Instr.box t u).run P w = .ok v w') (h : wpList P ops Q rest (a.put o.dst v) w') : wpList P ops Q (o :: rest) a w := by
  subst hx
  refine wpList_plain hg fun _ hK => ?_
  unfold Oper.wp execOp
  simp only [ho, Sem.run_bind, hrun, Result.andThen_ok]
  exact hK _ _ h
theorem Turn.cells {b : Nat} {t : TypeId} {w : World} : ∀ (vs : List Value) (o : Nat) (w' : World) (C : List Value), o + vs.length ≤ C.length → Turn b (.cells C.toArray t) w w' → Turn b (.cells (splice C o vs).toArray t) w (w'.setCells b o vs)
  | [], o, w', C, _, h => by
    have e : splice C o [] = C := by simp [splice]
    rw [e]
    exact h
  | v :: r, o, w', C, hl, h => by
    have h0 := h.set o v
    rw [List.setIfInBounds_toArray] at h0
    have h1 := Turn.cells r (o + 1) _ (C.set o v) (by simp at hl ⊢; omega) h0
    have e : splice (C.set o v) (o + 1) r = splice C o (v :: r) := by
      simp at hl
      unfold splice
      have e1 : (C.set o v).take (o + 1) = C.take o ++ [v] := by
        rw [List.take_add_one, List.take_set_of_le (Nat.le_refl o)]
        simp [List.getElem?_set_self (show o < C.length by omega)]
      have e2 : (C.set o v).drop (o + 1 + r.length) = C.drop (o + 1 + r.length) := List.drop_set_of_lt (by omega)
      rw [e1, e2, List.append_assoc, List.singleton_append, List.cons_append, List.length_cons, show o + 1 + r.length = o + (r.length + 1) by omega]
    rw [e] at h1
    exact h1
theorem wpl_world {P : Program} {ops : Array Oper} {l : List Oper} {Q : Exit → Act → World → Prop} {a : Act} {w : World} (F : World → Prop) (hF : F w) (h : ∀ w2, F w2 → wpList P ops Q l a w2) : wpList P ops Q l a w := h w hF
theorem exec_load_mid {P : Program} {o : Oper} {a : Act} {w : World} {ty : TypeId} {x : Operand} {b off : Nat} {cs : List Value} {d : TypeDesc} (ho : o.op = .load ty x) (hx : a.eval x = .pointer (some ⟨b, off, none⟩)) (hc : w.rangeAt b off cs)
    (hu : P.underlying ty = some d) (hd : d.isRow = true) (hi : (P.info? ty).map (·.size) = some cs.length) : (execOp a.eval o).run P w = .ok (.value (.agg cs.toArray)) w := by
  unfold execOp
  simp only [ho, hx, Instr.loadAt, Instr.sureAddr, Sem.run_bind, Sem.run_pure, Result.andThen_ok, run_loadVar_mid w b off ty cs d hc hu hd hi]
theorem Blk.range {w : World} {b : Nat} {t : TypeId} {cs l : List Value} (h : Blk w b (.cells cs.toArray t)) {o : Nat} (hl : (cs.drop o).take l.length = l) : w.rangeAt b o l := fun j v hv => by
  have hj : j < l.length := (List.getElem?_eq_some_iff.1 hv).1
  rw [h.cell (o + j), List.getElem?_toArray, ← hv, ← hl, List.getElem?_take, if_pos hj, List.getElem?_drop]
theorem Blk.there {w : World} {b : Nat} {t : TypeId} {cs : List Value} (h : Blk w b (.cells cs.toArray t)) {o n : Nat} (hl : o + n ≤ cs.length) : w.there b o n := fun j hj =>
  ⟨by rw [h.cell (o + j), List.getElem?_toArray, List.getElem?_eq_getElem (by omega)]; rfl, h.frozen (o + j)⟩
theorem nwc_one (n : NW) : ∀ v ∈ nwc n, v.oneCell' = true := by intro v hv; simp [nwc] at hv; rcases hv with h | h | h | h | h | h | h <;> subst h <;> rfl
theorem nrc_one (n : NW) : ∀ v ∈ nrc n, v.oneCell' = true := by intro v hv; simp [nrc] at hv; rcases hv with h | h | h | h | h | h | h <;> subst h <;> rfl
theorem pcs_one (p : PS) : ∀ v ∈ pcs p, v.oneCell' = true := by
  intro v hv
  simp only [pcs, List.mem_append] at hv
  rcases hv with h | h
  · simp at h; rcases h with h | h | h | h <;> subst h <;> rfl
  · rcases h with ((((((h | h) | h) | h) | h) | h) | h) | h <;> exact nwc_one _ _ h
theorem prc_one (p : PS) : ∀ v ∈ prc p, v.oneCell' = true := by
  intro v hv
  simp only [prc, List.mem_append] at hv
  rcases hv with h | h
  · simp at h; rcases h with h | h | h | h <;> subst h <;> rfl
  · rcases h with ((((((h | h) | h) | h) | h) | h) | h) | h <;> exact nrc_one _ _ h
abbrev PS.obj (p : PS) : Obj := .cells (pcs p).toArray 72
abbrev PS.robj (p : PS) : Obj := .cells (prc p).toArray 40
def nw0 : NW := ⟨false, 0, 0, 0, 0, false, false⟩
def ps0 (a b : Int) : PS := ⟨a, b, false, 0, fun _ => nw0⟩
theorem ps0_ok {a b : Int} (h : rtB a b = true) : (ps0 a b).Ok := ⟨h, rfl, fun _ _ => rfl, fun _ _ h => by cases h⟩
theorem info72s (p : PS) : (Try.prog.info? 72).map (·.size) = some (pcs p).toArray.size := by rw [List.size_toArray, pcs_len]; kernel_rfl
theorem info40s (p : PS) : (Try.prog.info? 40).map (·.size) = some (prc p).toArray.size := by rw [List.size_toArray, prc_len]; kernel_rfl
theorem info69s (n : NW) : (Try.prog.info? 69).map (·.size) = some (nwc n).toArray.size := by kernel_rfl
theorem info37s (n : NW) : (Try.prog.info? 37).map (·.size) = some (nrc n).toArray.size := by kernel_rfl
theorem build72 (a b : Int) (w : World) : (Instr.build 72 #[(0, .agg #[.int .i64 a, .int .i64 b])]).run Try.prog w = .ok (.agg (pcs (ps0 a b)).toArray) w := run_build w 72 #[(0, .agg #[.int .i64 a, .int .i64 b])] _ (by kernel_rfl)
/-- New. -/
def NewPost (a b : Int) (w : World) (r : Ending) (w' : World) : Prop :=
  ∃ t, r = .returned (.tuple #[.pointer (some ⟨t, 0, none⟩), .int .i64 0]) ∧ w.heap.size ≤ t ∧ Blk w' t (ps0 a b).obj ∧ Below w.heap.size w w'
set_option maxHeartbeats 800000 in
theorem new_no (a b : Int) (w : World) (h : rtB a b = false) : Calls Try.prog 7 #[.agg #[.int .i64 a, .int .i64 b]] w fun r w' => r = .returned (.tuple #[.pointer none, .int .i64 1]) ∧ Below w.heap.size w w' := by
  have HR := fun w1 => right_any a b w1
  rw [h] at HR
  clear h
  go_enter Try.func7, Try.ntmps7
  go_wp2_with fail
  refine (HR _).mono ?_
  rintro r w1 ⟨rfl, hb⟩
  have K := Kp.mk ((more (Below.refl _ _) (.cells #[.int .i64 a, .int .i64 b] 25)).trans (hb.mono (by simp)))
  clear hb
  go_wp2_with fail
  go_ret2
  exact ⟨rfl, K.out⟩
set_option maxHeartbeats 800000 in
theorem new_yes (a b : Int) (w : World) (h : rtB a b = true) : Calls Try.prog 7 #[.agg #[.int .i64 a, .int .i64 b]] w (NewPost a b w) := by
  have HR := fun w1 => right_any a b w1
  rw [h] at HR
  clear h
  have HBU := build72 a b
  have HBX := fun (w : World) => box_row (t := 72) (cs := pcs (ps0 a b)) (info72s _) w
  go_enter Try.func7, Try.ntmps7
  go_wp2_with fail
  refine (HR _).mono ?_
  rintro r w1 ⟨rfl, hb⟩
  have K := Kp.mk (And.intro ((Blk.new w (.cells #[.int .i64 a, .int .i64 b] 25)).keep hb) ((more (Below.refl _ _) (.cells #[.int .i64 a, .int .i64 b] 25)).trans (hb.mono (by simp))))
  obtain ⟨c0, c1, -⟩ := K.out.1.two
  clear hb HR
  go_wp2_with (refine wpList_box_eq rfl 72 (.tmp 8) rfl _ rfl _ _ (HBX _) ?_)
  go_ret2
  exact ⟨w1.heap.size, rfl, K.out.2.size, Blk.new _ _, K.out.2.trans ((more (Below.refl _ _) _).mono K.out.2.size)⟩
theorem sum_in {a b : Int} (h : tmB a = true) (hb : 0 ≤ b ∧ b ≤ 1048576) : IntKind.i64.wrap (a + b) = a + b := by
  have : 0 ≤ a ∧ a ≤ 1099511627776 := by simpa [tmB] using h
  exact IntWalk.i64_in _ (by omega)
set_option maxHeartbeats 800000 in
theorem settled_any (p : PS) (n : NW) (w : World) (hn : tmB n.first = true) (hp : 0 ≤ p.settle ∧ p.settle ≤ 1048576) :
    Calls Try.prog 28 #[.agg (nwc n).toArray, .agg #[.int .i64 p.period, .int .i64 p.settle]] w fun r w' => r = .returned (.int .i64 (setT p n)) ∧ Below w.heap.size w w' := by
  have HK : Kp (∀ o o' : Obj, Below w.heap.size w ((w.alloc o).alloc o')) := ⟨fun o o' => more (more (Below.refl _ _) _) _⟩
  have hs := sum_in hn hp
  have hs' : wrap64 (n.first + p.settle) = n.first + p.settle := by rw [← IntWalk.i64_left]; exact hs
  clear hn hp
  obtain ⟨nt, e, s, m, f, wt, u⟩ := n
  cases u with
  | true =>
    go_enter Try.func28, Try.ntmps28
    unfold nwc
    go_wp2
    go_ret
    exact ⟨rfl, HK.out _ _⟩
  | false =>
    go_enter Try.func28, Try.ntmps28
    unfold nwc
    go_wp2
    go_ret
    exact ⟨reti (by first | exact hs' | rfl | (simp only [setT] ; simp [hs', hs]) ), HK.out _ _⟩
end Go.Proofs.Ytfnjfoconklhiaa
