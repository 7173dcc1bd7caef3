/-
  The document's Floors, as a row of cells; its Get and May; the program's Dests.
-/
import Derived.Test.YtoembbdjpelogaaFloN
import Derived.Deep.MidRow
import Derived.Laws.Rows
import Derived.Laws.Tables
import Derived.Deep.AppendLies
import Derived.Test.YtoembbdjpelogaaFlowP
namespace Go.Proofs.Ytoembbdjpelogaa
open Go.RowKit Go.Maps

structure Kp (p : Prop) : Prop where
  out : p
theorem box_rowF {t : TypeId} {cs : List Value} (h1 : (Try.prog.info? t).map (·.size) = some cs.toArray.size) (w : World) : (Instr.box t (.agg cs.toArray)).run Try.prog w = .ok (.pointer (some ⟨w.heap.size, 0, none⟩)) (w.alloc (.cells cs.toArray t)) := by
  cases hq : Try.prog.info? t with
  | none => simp [hq] at h1
  | some i =>
    have hi : i.size = cs.toArray.size := by simpa [hq] using h1
    simp [Instr.box, newVar, sizeOf, typeInfo, hq, hi, Value.cells, newRow]
theorem wpList_box_eq {P : Program} {w : World} {ops : Array Oper} {rest : List Oper} {o : Oper} {a : Act} {Q : Exit → Act → World → Prop} (hg : o.guard = none) (t : TypeId) (x : Operand) (ho : o.op = .box t x)
    (u : Value) (hx : a.eval x = u) (v : Value) (w' : World) (hrun : (Instr.box t u).run P w = .ok v w') (h : wpList P ops Q rest (a.put o.dst v) w') : wpList P ops Q (o :: rest) a w := by
  subst hx
  refine wpList_plain hg fun _ hK => ?_
  unfold Oper.wp execOp
  simp only [ho, Sem.run_bind, hrun, Result.andThen_ok]
  exact hK _ _ h
theorem wpl_world' {P : Program} {ops : Array Oper} {rest : List Oper} {a : Act} {w : World} {Q : Exit → Act → World → Prop} (F : World → Prop) (hF : F w) (h : ∀ w2, F w2 → wpList P ops Q rest a w2) : wpList P ops Q rest a w := h w hF

/-- The floor of a destination; zeros, if there is none. -/
def gk (F : Int → Option K3) (d : Int) : K3 := (F d).getD (0, 0, 0)
def kc3 (x : K3) : List Value := [.int .u32 x.1, .int .u32 x.2.1, .int .i64 x.2.2]
/-- The cells of the document's Floors. -/
def fcs (F : Int → Option K3) : List Value := [.bool (F 0).isSome, .bool (F 1).isSome, .bool (F 2).isSome, .bool (F 3).isSome, .bool (F 4).isSome, .bool (F 5).isSome, .bool (F 6).isSome, .bool (F 7).isSome] ++
  (kc3 (gk F 0) ++ kc3 (gk F 1) ++ kc3 (gk F 2) ++ kc3 (gk F 3) ++ kc3 (gk F 4) ++ kc3 (gk F 5) ++ kc3 (gk F 6) ++ kc3 (gk F 7))
theorem fcs_len (F : Int → Option K3) : (fcs F).length = 32 := rfl
theorem fcs_has (F : Int → Option K3) : ∀ j : Nat, j < 8 → (fcs F).toArray[j]? = some (.bool (F j).isSome)
  | 0, _ => rfl | 1, _ => rfl | 2, _ => rfl | 3, _ => rfl | 4, _ => rfl | 5, _ => rfl | 6, _ => rfl | 7, _ => rfl
  | n + 8, h => absurd h (by omega)
theorem fcs_is (F : Int → Option K3) : ∀ j : Nat, j < 8 → (fcs F).toArray[8 + j * 3]? = some (.int .u32 (gk F j).1) ∧ (fcs F).toArray[8 + j * 3 + 1]? = some (.int .u32 (gk F j).2.1) ∧ (fcs F).toArray[8 + j * 3 + 2]? = some (.int .i64 (gk F j).2.2)
  | 0, _ => ⟨rfl, rfl, rfl⟩ | 1, _ => ⟨rfl, rfl, rfl⟩ | 2, _ => ⟨rfl, rfl, rfl⟩ | 3, _ => ⟨rfl, rfl, rfl⟩ | 4, _ => ⟨rfl, rfl, rfl⟩ | 5, _ => ⟨rfl, rfl, rfl⟩ | 6, _ => ⟨rfl, rfl, rfl⟩ | 7, _ => ⟨rfl, rfl, rfl⟩
  | n + 8, h => absurd h (by omega)
theorem fcs_put (F : Int → Option K3) (x : K3) : ∀ j : Nat, j < 8 → ((((fcs F).toArray.setIfInBounds j (.bool true)).setIfInBounds (8 + j * 3) (.int .u32 x.1)).setIfInBounds (8 + j * 3 + 1) (.int .u32 x.2.1)).setIfInBounds (8 + j * 3 + 2) (.int .i64 x.2.2) = (fcs (updF F j x)).toArray
  | 0, _ => by simp [fcs, kc3, gk, updF]
  | 1, _ => by simp [fcs, kc3, gk, updF]
  | 2, _ => by simp [fcs, kc3, gk, updF]
  | 3, _ => by simp [fcs, kc3, gk, updF]
  | 4, _ => by simp [fcs, kc3, gk, updF]
  | 5, _ => by simp [fcs, kc3, gk, updF]
  | 6, _ => by simp [fcs, kc3, gk, updF]
  | 7, _ => by simp [fcs, kc3, gk, updF]
  | n + 8, h => absurd h (by omega)
theorem info54s : (Try.prog.info? 54).map (·.size) = some 32 := by kernel_rfl
theorem info24s : (Try.prog.info? 24).map (·.size) = some 3 := by kernel_rfl
theorem results_row_tmpF {P : Program} {fn : Func} {p q : Tmp} {ty : TypeId} (h : fn.results = #[.cell p ty, .tmp q]) (tmps : Array Value) (w : World) (g : Nat) (t : TypeId) (cs : Array Value) (fr : Nat × Nat) (d : TypeDesc) (u : Value)
    (hp : tmps.getD p undef = .pointer (some ⟨g, 0, none⟩)) (hq : tmps.getD q undef = u) (hg : w.heap[g]? = some (.cells cs t fr))
    (hu : P.underlying ty = some d) (hd : (match d with | .struct _ | .array _ _ => true | _ => false) = true) (hi : (P.info? ty).map (·.size) = some cs.size) :
    (results fn tmps).run P w = .ok (.tuple #[.agg cs, u]) w := by
  have hp' : tmps[p]?.getD undef = .pointer (some ⟨g, 0, none⟩) := by simpa using hp
  have hq' : tmps[q]?.getD undef = u := by simpa using hq
  simp [results, h, hp', hq', asAddr, run_loadVar_row w g t ty cs fr d hg hu hd hi]
/-- Only destinations have floors. -/
def InF (F : Int → Option K3) : Prop := ∀ d, (F d).isSome = true → 0 ≤ d ∧ d < 8
theorem InF.none {F : Int → Option K3} (h : InF F) {d : Int} (hd : ¬ (0 ≤ d ∧ d < 8)) : F d = none := by
  cases hf : F d with
  | none => rfl
  | some x => exact absurd (h d (by rw [hf]; rfl)) hd
set_option maxRecDepth 100000 in
set_option maxHeartbeats 3200000 in
theorem rget_any (F : Int → Option K3) (d : Int) (w : World) (hF : InF F) :
    Calls Try.prog 32 #[.agg (fcs F).toArray, .int .i64 d] w fun r w' => r = .returned (.tuple #[agg3 (gk F d), .bool (F d).isSome]) ∧ Below w.heap.size w w' := by
  have hC := fun (w : World) => box_rowF (t := 54) (cs := fcs F) info54s w
  by_cases h0 : d < 0
  · have e : F d = none := hF.none (by omega)
    have HG : Kp (gk F d = (0, 0, 0)) := ⟨by unfold gk; rw [e]; rfl⟩
    have HE := Kp.mk e
    clear e
    go_enter Try.func32, Try.ntmps32
    go_wp2_with (refine wpList_box_eq rfl 54 (.tmp 0) rfl _ rfl _ _ (hC _) ?_)
    refine bodyPost_ret (v := .tuple #[agg3 (0, 0, 0), .bool false]) (by simp [results, Try.results32, go_sem]) rfl ⟨by rw [HG.out, HE.out]; rfl, ?_⟩
    repeat (first | with_reducible exact more (more (Below.refl _ _) _) _ | with_reducible refine Below.setCell ?_ (by simp) _)
  · by_cases h8 : 8 ≤ d
    · have e : F d = none := hF.none (by omega)
      have HG : Kp (gk F d = (0, 0, 0)) := ⟨by unfold gk; rw [e]; rfl⟩
      have HE := Kp.mk e
      clear e
      go_enter Try.func32, Try.ntmps32
      go_wp2_with (refine wpList_box_eq rfl 54 (.tmp 0) rfl _ rfl _ _ (hC _) ?_)
      refine bodyPost_ret (v := .tuple #[agg3 (0, 0, 0), .bool false]) (by simp [results, Try.results32, go_sem]) rfl ⟨by rw [HG.out, HE.out]; rfl, ?_⟩
      repeat (first | with_reducible exact more (more (Below.refl _ _) _) _ | with_reducible refine Below.setCell ?_ (by simp) _)
    · obtain ⟨j, rfl⟩ : ∃ j : Nat, d = j := ⟨d.toNat, by omega⟩
      have hj : j < 8 := by omega
      have Q1 := Kp.mk (fcs_has F j hj)
      have Q2 := Kp.mk (fcs_is F j hj)
      go_enter Try.func32, Try.ntmps32
      go_wp2_with (refine wpList_box_eq rfl 54 (.tmp 0) rfl _ rfl _ _ (hC _) ?_)
      obtain ⟨A, hA⟩ : ∃ A, A = w.heap.size := ⟨_, rfl⟩
      have HB : Kp (Blk ((w.alloc (.cells (fcs F).toArray 54)).alloc (.cells #[.int .u32 0, .int .u32 0, .int .i64 0] 24)) A (.cells (fcs F).toArray 54)) := ⟨(Blk.newAt _ hA).old _⟩
      have HR : Kp (Blk ((w.alloc (.cells (fcs F).toArray 54)).alloc (.cells #[.int .u32 0, .int .u32 0, .int .i64 0] 24)) (A + 1) (.cells #[.int .u32 0, .int .u32 0, .int .i64 0] 24)) := ⟨Blk.newAt _ (by simp [hA])⟩
      have HE : Kp (Below w.heap.size w ((w.alloc (.cells (fcs F).toArray 54)).alloc (.cells #[.int .u32 0, .int .u32 0, .int .i64 0] 24))) := ⟨more (more (Below.refl _ _) _) _⟩
      rw [← hA] at HE ⊢
      have HAe := Kp.mk hA
      clear hA
      generalize (w.alloc (.cells (fcs F).toArray 54)).alloc (.cells #[.int .u32 0, .int .u32 0, .int .i64 0] 24) = W at *
      have c0 : W.cell? ⟨A, j, none⟩ = some (.bool (F j).isSome) := (HB.out.cell j).trans Q1.out
      have c1 : W.cell? ⟨A, 8 + j * 3, none⟩ = some (.int .u32 (gk F j).1) := (HB.out.cell _).trans Q2.out.1
      have c2 : W.cell? ⟨A, 8 + j * 3 + 1, none⟩ = some (.int .u32 (gk F j).2.1) := (HB.out.cell _).trans Q2.out.2.1
      have c3 : W.cell? ⟨A, 8 + j * 3 + 2, none⟩ = some (.int .i64 (gk F j).2.2) := (HB.out.cell _).trans Q2.out.2.2
      obtain ⟨r0, r1, r2, r3, r4, r5⟩ := HR.out.three
      have lA := HB.out.lt
      have lR := HR.out.lt
      clear hC
      go_region
      have HF : Kp (Blk (((W.setCell ⟨A + 1, 0, none⟩ (.int .u32 (gk F j).1)).setCell ⟨A + 1, 1, none⟩ (.int .u32 (gk F j).2.1)).setCell ⟨A + 1, 2, none⟩ (.int .i64 (gk F j).2.2)).drew (A + 1) (.cells #[.int .u32 (gk F j).1, .int .u32 (gk F j).2.1, .int .i64 (gk F j).2.2] 24)) := ⟨((HR.out.set 0 (.int .u32 (gk F j).1)).set 1 (.int .u32 (gk F j).2.1)).set 2 (.int .i64 (gk F j).2.2)⟩
      go_wp2_with fail
      refine bodyPost_ret (results_row_tmpF rfl _ _ (A + 1) 24 _ _ _ (.bool (F j).isSome) rfl rfl HF.out Try.underlying24 rfl info24s) rfl ⟨rfl, ?_⟩
      rw [← HAe.out]
      exact (((HE.out.setCell (by show A ≤ A + 1; omega) _).setCell (by show A ≤ A + 1; omega) _).setCell (by show A ≤ A + 1; omega) _).drew
theorem may_eq (x y : K3) : decide (0 ≤ cmp3 x y) = !btr y x := by
  rw [← cmp3_pos]
  have h : 0 ≤ cmp3 x y ↔ ¬ 0 < cmp3 y x := by
    unfold cmp3 compareI
    repeat' split
    all_goals omega
  rw [decide_eq_decide.2 h, decide_not]
theorem rai_eq (x y : K3) : decide (cmp3 x y ≤ 0) = !btr x y := by
  rw [← cmp3_pos]
  have h : cmp3 x y ≤ 0 ↔ ¬ 0 < cmp3 x y := by omega
  rw [decide_eq_decide.2 h, decide_not]
set_option maxRecDepth 100000 in
set_option maxHeartbeats 3200000 in
theorem rmay_any (F : Int → Option K3) (d : Int) (x : K3) (w : World) (hF : InF F) :
    Calls Try.prog 34 #[.agg (fcs F).toArray, .int .i64 d, agg3 x] w fun r w' => r = .returned (.bool (mayF F d x)) ∧ Below w.heap.size w w' := by
  have hC := fun (w : World) => box_rowF (t := 54) (cs := fcs F) info54s w
  obtain ⟨A, hA⟩ : ∃ A, A = w.heap.size := ⟨_, rfl⟩
  have HB : Kp (Blk ((w.alloc (.cells (fcs F).toArray 54)).alloc (.cells #[.int .u32 x.1, .int .u32 x.2.1, .int .i64 x.2.2] 24)) A (.cells (fcs F).toArray 54)) := ⟨(Blk.newAt _ hA).old _⟩
  have HK : Kp (Blk ((w.alloc (.cells (fcs F).toArray 54)).alloc (.cells #[.int .u32 x.1, .int .u32 x.2.1, .int .i64 x.2.2] 24)) (A + 1) (.cells #[.int .u32 x.1, .int .u32 x.2.1, .int .i64 x.2.2] 24)) := ⟨Blk.newAt _ (by simp [hA])⟩
  have HE : Kp (Below A w ((w.alloc (.cells (fcs F).toArray 54)).alloc (.cells #[.int .u32 x.1, .int .u32 x.2.1, .int .i64 x.2.2] 24))) := ⟨by rw [hA]; exact more (more (Below.refl _ _) _) _⟩
  have HM : Kp (mayF F d x = (!(F d).isSome || decide (0 ≤ cmp3 x (gk F d)))) := ⟨rfl⟩
  have HFF := Kp.mk hF
  clear hF
  go_enter Try.func34, Try.ntmps34
  go_wp2_with (first
    | (refine wpList_box_eq rfl 54 (.tmp 0) rfl _ rfl _ _ (hC _) ?_)
    | (refine wpList_load_row rfl 54 (.tmp 3) rfl w.heap.size rfl 54 (fcs F).toArray (0, 0) _ (by rw [← hA]; exact HB.out) Try.underlying54 rfl info54s ?_))
  rw [← hA]
  have HAe := Kp.mk hA
  clear hC hA
  generalize (w.alloc (.cells (fcs F).toArray 54)).alloc (.cells #[.int .u32 x.1, .int .u32 x.2.1, .int .i64 x.2.2] 24) = W at *
  refine (rget_any F d W HFF.out).mono ?_
  rintro r w1 ⟨rfl, hb⟩
  have K1 := HK.out.keep hb
  have lA := HB.out.lt
  have E1 : Kp (Below A w w1) := ⟨HE.out.trans (hb.mono (by omega))⟩
  have Z1 : Kp (A ≤ w1.heap.size) := ⟨by have := hb.size; omega⟩
  clear hb HB HK HE lA
  generalize gk F d = y at HM ⊢
  generalize (F d).isSome = ok at HM ⊢
  obtain ⟨k0, k1, k2, -⟩ := K1.three
  have lK := K1.lt
  cases ok
  · go_wp2_with fail
    go_ret
    exact ⟨retb' (by rw [HM.out]; rfl), by rw [← HAe.out]; exact E1.out.alloc Z1.out _⟩
  · go_wp2_with fail
    refine (better_any _ _ _ _ _ _ _).mono ?_
    rintro r w2 ⟨rfl, hb2⟩
    have E2 : Kp (Below A w w2) := ⟨(E1.out.alloc Z1.out (.cells #[.int .u32 y.1, .int .u32 y.2.1, .int .i64 y.2.2] 24)).trans (hb2.mono (by have := Z1.out; simp; omega))⟩
    clear hb2
    go_wp2_with fail
    go_ret
    exact ⟨retb' (by rw [HM.out, may_eq]; rfl), by rw [← HAe.out]; exact E2.out⟩
end Go.Proofs.Ytoembbdjpelogaa
