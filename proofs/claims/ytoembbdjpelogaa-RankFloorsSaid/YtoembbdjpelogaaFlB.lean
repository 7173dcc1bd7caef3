/-
  The document's Raise.
-/
import Derived.Test.YtoembbdjpelogaaFlA
import Derived.Deep.RegionWith
import Derived.Test.YtoembbdjpelogaaFlowQ
namespace Go.Proofs.Ytoembbdjpelogaa
open Go.RowKit Go.Maps

theorem wp_store_rowD {P : Program} {o : Oper} {a : Act} {w : World} {K : Act → World → Prop} {Q : Exit → Act → World → Prop} (hd : o.dst = none) (ty : TypeId) (x y : Operand) (ho : o.op = .store ty x y)
    (g : Nat) (cells : Array Value) (hx : a.eval x = .pointer (some ⟨g, 0, none⟩)) (hy : a.eval y = .agg cells)
    (t : TypeId) (cs : Array Value) (hg : w.heap[g]? = some (.cells cs t (0, 0))) (hi : (P.info? ty).map (·.size) = some cells.size)
    (hs : cs.size = cells.size) (h1 : cells.all (·.oneCell') = true) (h : K a (w.setRow g cells)) : o.wp P a w K Q := by
  refine wp_store_row ty x y ho g cells hx hy t cs hg hi hs h1 ?_
  rw [hd]
  exact h
theorem predOp_val {P : Program} {ops : Array Oper} {o : Oper} {V : World → Value → Prop} {a : Act} {w : World} {v : Value} (hw : Region.wanted o (yielded ops a.tmps) = true) (he : (execOp a.eval o).run P w = .ok (.value v) w) (hv : V w v) : PredOp P ops o V a w := Or.inl ⟨hw, predRun_value he hv⟩
theorem fcs_one (F : Int → Option K3) : (fcs F).toArray.all (·.oneCell') = true := by simp [fcs, kc3, Value.oneCell']
theorem ex_worldF {Q : Exit → Act → World → Prop} {x : Exit} {a : Act} {w : World} (F : World → Prop) (hF : F w) (h : ∀ w2, F w2 → Q x a w2) : Q x a w := h w hF
theorem wp_worldF {P : Program} {c : Code} {Q : Exit → Act → World → Prop} {a : Act} {w : World} (F : World → Prop) (hF : F w) (h : ∀ w2, F w2 → Code.wp P c Q a w2) : Code.wp P c Q a w := h w hF
theorem Blk.setRowF {w : World} {g : Nat} {cs : Array Value} {t : TypeId} {fr : Nat × Nat} (h : Blk w g (.cells cs t fr)) (cs' : Array Value) : Blk (w.setRow g cs') g (.cells cs' t fr) := setRow_heap w g cs cs' t fr h
theorem below_setRowF {B g : Nat} {w w' : World} (h : Below B w w') (hb : B ≤ g) (cs : Array Value) : Below B w (w'.setRow g cs) :=
  ⟨h.os, h.tape, h.output, by simpa [World.setRow] using h.size, fun k hk => by rw [setRow_other _ _ _ _ (by omega)]; exact h.block k hk⟩
theorem results_tmp2_rowF {P : Program} {fn : Func} {p q s : Tmp} {ty : TypeId} (h : fn.results = #[.tmp p, .tmp q, .cell s ty]) (tmps : Array Value) (w : World) (g : Nat) (t : TypeId) (cs : Array Value) (fr : Nat × Nat) (d : TypeDesc) (u v : Value)
    (hp : tmps.getD p undef = u) (hq : tmps.getD q undef = v) (hr : tmps.getD s undef = .pointer (some ⟨g, 0, none⟩)) (hg : w.heap[g]? = some (.cells cs t fr))
    (hu : P.underlying ty = some d) (hd : (match d with | .struct _ | .array _ _ => true | _ => false) = true) (hi : (P.info? ty).map (·.size) = some cs.size) :
    (results fn tmps).run P w = .ok (.tuple #[u, v, .agg cs]) w := by
  have hp' : tmps[p]?.getD undef = u := by simpa using hp
  have hq' : tmps[q]?.getD undef = v := by simpa using hq
  have hr' : tmps[s]?.getD undef = .pointer (some ⟨g, 0, none⟩) := by simpa using hr
  simp [results, h, hp', hq', hr', asAddr, run_loadVar_row w g t ty cs fr d hg hu hd hi]
theorem fcs_at1 (F : Int → Option K3) (j : Nat) (hj : j < 8) (i : Nat) (hi : 8 ≤ i) : ((fcs F).toArray.setIfInBounds j (.bool true))[i]? = (fcs F).toArray[i]? := by
  rw [Array.getElem?_setIfInBounds, if_neg (by omega)]
set_option maxRecDepth 100000 in
set_option maxHeartbeats 6400000 in
theorem rraise_any (F : Int → Option K3) (d : Int) (x : K3) (w : World) :
    Calls Try.prog 30 #[.agg (fcs F).toArray, .int .i64 d, agg3 x] w fun r w' => r = .returned (.tuple #[.bool (raiseU F d x), .int .i64 (raiseE d x), .agg (fcs (raiseF F d x)).toArray]) ∧ Below w.heap.size w w' := by
  have hC := fun (w : World) => box_rowF (t := 54) (cs := fcs F) info54s w
  obtain ⟨A, hA⟩ : ∃ A, A = w.heap.size := ⟨_, rfl⟩
  have HB : Kp (Blk (((w.alloc (.cells (fcs F).toArray 54)).alloc (.cells #[.int .u32 x.1, .int .u32 x.2.1, .int .i64 x.2.2] 24)).alloc (.cells (fcs fun _ => none).toArray 54)) A (.cells (fcs F).toArray 54)) := ⟨((Blk.newAt _ hA).old _).old _⟩
  have HK : Kp (Blk (((w.alloc (.cells (fcs F).toArray 54)).alloc (.cells #[.int .u32 x.1, .int .u32 x.2.1, .int .i64 x.2.2] 24)).alloc (.cells (fcs fun _ => none).toArray 54)) (A + 1) (.cells #[.int .u32 x.1, .int .u32 x.2.1, .int .i64 x.2.2] 24)) := ⟨(Blk.newAt _ (by simp [hA])).old _⟩
  have HZ : Kp (Blk (((w.alloc (.cells (fcs F).toArray 54)).alloc (.cells #[.int .u32 x.1, .int .u32 x.2.1, .int .i64 x.2.2] 24)).alloc (.cells (fcs fun _ => none).toArray 54)) (A + 2) (.cells (fcs fun _ => none).toArray 54)) := ⟨Blk.newAt _ (by simp [hA])⟩
  have HE : Kp (Below A w (((w.alloc (.cells (fcs F).toArray 54)).alloc (.cells #[.int .u32 x.1, .int .u32 x.2.1, .int .i64 x.2.2] 24)).alloc (.cells (fcs fun _ => none).toArray 54))) := ⟨by rw [hA]; exact more (more (more (Below.refl _ _) _) _) _⟩
  have HAe := Kp.mk hA
  have HU : Kp (raiseU F d x = (decide (0 ≤ d ∧ d < 8) && rightB x.1 x.2.1 x.2.2 && !((F d).isSome && decide (cmp3 x (gk F d) ≤ 0)))) := ⟨rfl⟩
  have HEE : Kp (raiseE d x = if decide (0 ≤ d ∧ d < 8) && rightB x.1 x.2.1 x.2.2 then 0 else 1) := ⟨rfl⟩
  have HFF : Kp (raiseF F d x = if raiseU F d x = true then updF F d x else F) := ⟨rfl⟩
  by_cases h0 : d < 0
  · have PU : Kp (raiseU F d x = false) := ⟨by rw [HU.out]; simp; omega⟩
    have PE : Kp (raiseE d x = 1) := ⟨by rw [HEE.out]; simp; omega⟩
    have PF : Kp (raiseF F d x = F) := ⟨by rw [HFF.out, PU.out]; rfl⟩
    clear HU HEE HFF
    go_enter Try.func30, Try.ntmps30
    go_wp2_with (refine wpList_box_eq rfl 54 (.tmp 0) rfl _ rfl _ _ (hC _) ?_)
    rw [← hA]
    clear hC hA
    refine wp_worldF (fun W => Blk W A (.cells (fcs F).toArray 54) ∧ Blk W (A + 2) (.cells (fcs fun _ => none).toArray 54) ∧ Below A w W) ⟨HB.out, HZ.out, HE.out⟩ ?_
    intro W hW
    have ST := Kp.mk hW
    clear hW HB HK HZ HE
    refine wp_region_predQ (fun w' => Blk w' A (.cells (fcs F).toArray 54) ∧ Blk w' (A + 2) (.cells (fcs fun _ => none).toArray 54) ∧ Below A w w') [0, 1, 2] [1] [3]
      (fun ι w' v => match ι with
        | 0 => v = .agg (fcs F).toArray
        | 1 => v = .bool false
        | 2 => v = .int .i64 1
        | _ => v = .bool true)
      [[], [], [(1, some 6)]]
      [[]]
      [(0, some 20), (1, some 6), (2, some 7)]
      (by kernel_rfl) (by kernel_rfl) (by kernel_rfl) (by kernel_rfl) (by kernel_rfl) (by kernel_rfl) (by kernel_rfl) (by decide) (by decide) (fun w1 w2 h hb => ⟨h.1.keep hb, h.2.1.keep hb, h.2.2.trans (hb.mono (Nat.le_of_lt h.1.lt))⟩) (fun c a w d v h => by cases d <;> exact h) ?_ ⟨ST.out.1.keep (Below.refl _ _).drew, ST.out.2.1.keep (Below.refl _ _).drew, ST.out.2.2.drew⟩ ?_ ?_ ?_
    · intro ι w1 w2 v h hb
      match ι, h with
      | 0, h => exact h
      | 1, h => exact h
      | 2, h => exact h
      | _ + 3, h => exact h
    · refine ⟨fun γ wx hS h => ?_, fun γ wx hS h => ?_, fun γ wx hS h => ?_, trivial⟩
      · refine ⟨_, rfl, ?_⟩
        refine predOp_val (v := .agg (fcs F).toArray) ?_ ?_ ?_
        · kernel_rfl
        · exact exec_load_blk 54 (.tmp 3) rfl A rfl 54 (fcs F).toArray (0, 0) _ hS.1 Try.underlying54 rfl info54s
        · rfl
      · refine ⟨_, rfl, ?_⟩
        refine predOp_val (v := .bool false) ?_ ?_ ?_
        · kernel_rfl
        · simp only [putE]
          first | rfl | (go_simp; done) | (go_simp; rfl)
        · rfl
      · have h1 := h
        have e1 : γ 1 = .bool false := h1
        refine ⟨_, rfl, ?_⟩
        refine predOp_val (v := .int .i64 1) ?_ ?_ ?_
        · kernel_rfl
        · simp only [putE]
          first | rfl | (go_simp; done) | (go_simp; rfl)
        · rfl
    · refine ⟨fun γ wx hS h => ?_, trivial⟩
      · refine ⟨_, .bool false, rfl, Or.inl ⟨rfl, fun wz => by first | rfl | (simp only [putE]; first | rfl | (go_simp; done) | (go_simp; rfl))⟩, rfl⟩
    · intro γ w9 hS h
      have e0 : γ 0 = .agg (fcs F).toArray := h.1
      have e1 : γ 1 = .bool false := h.2.1
      have e2 : γ 2 = .int .i64 1 := h.2.2
      simp only [putE, Act.put, List.setIfInBounds_toArray, List.set_cons_zero, List.set_cons_succ]
      rw [e0, e1, e2]
      have S9 := Kp.mk hS
      clear h hS e0 e1 e2
      refine wpOps_step rfl rfl ?_
      refine wp_store_rowD rfl 54 (.tmp 8) (.tmp 20) rfl (A + 2) (fcs F).toArray rfl rfl 54 _ S9.out.2.1 info54s rfl (fcs_one _) ?_
      refine wpOps_done ?_
      refine ex_worldF (fun W => Blk W (A + 2) (.cells (fcs F).toArray 54) ∧ Below A w W) ⟨S9.out.2.1.setRowF _, below_setRowF S9.out.2.2 (by omega) _⟩ ?_
      rintro W9 hW
      have H9 := Kp.mk hW
      clear hW S9
      go_wp2_with fail
      exact bodyPost_ret (results_tmp2_rowF rfl _ _ (A + 2) 54 (fcs F).toArray (0, 0) _ (.bool false) (.int .i64 1) rfl rfl rfl H9.out.1 Try.underlying54 rfl info54s) rfl ⟨by rw [PU.out, PE.out, PF.out], by rw [← HAe.out]; exact H9.out.2⟩
  · by_cases h8 : 8 ≤ d
    · have PU : Kp (raiseU F d x = false) := ⟨by rw [HU.out]; simp; omega⟩
      have PE : Kp (raiseE d x = 1) := ⟨by rw [HEE.out]; simp; omega⟩
      have PF : Kp (raiseF F d x = F) := ⟨by rw [HFF.out, PU.out]; rfl⟩
      clear HU HEE HFF
      go_enter Try.func30, Try.ntmps30
      go_wp2_with (refine wpList_box_eq rfl 54 (.tmp 0) rfl _ rfl _ _ (hC _) ?_)
      rw [← hA]
      clear hC hA
      refine wp_worldF (fun W => Blk W A (.cells (fcs F).toArray 54) ∧ Blk W (A + 2) (.cells (fcs fun _ => none).toArray 54) ∧ Below A w W) ⟨HB.out, HZ.out, HE.out⟩ ?_
      intro W hW
      have ST := Kp.mk hW
      clear hW HB HK HZ HE
      refine wp_region_predQ (fun w' => Blk w' A (.cells (fcs F).toArray 54) ∧ Blk w' (A + 2) (.cells (fcs fun _ => none).toArray 54) ∧ Below A w w') [0, 1, 2] [1] [3]
        (fun ι w' v => match ι with
          | 0 => v = .agg (fcs F).toArray
          | 1 => v = .bool false
          | 2 => v = .int .i64 1
          | _ => v = .bool true)
        [[], [], [(1, some 6)]]
        [[]]
        [(0, some 20), (1, some 6), (2, some 7)]
        (by kernel_rfl) (by kernel_rfl) (by kernel_rfl) (by kernel_rfl) (by kernel_rfl) (by kernel_rfl) (by kernel_rfl) (by decide) (by decide) (fun w1 w2 h hb => ⟨h.1.keep hb, h.2.1.keep hb, h.2.2.trans (hb.mono (Nat.le_of_lt h.1.lt))⟩) (fun c a w d v h => by cases d <;> exact h) ?_ ⟨ST.out.1.keep (Below.refl _ _).drew, ST.out.2.1.keep (Below.refl _ _).drew, ST.out.2.2.drew⟩ ?_ ?_ ?_
      · intro ι w1 w2 v h hb
        match ι, h with
        | 0, h => exact h
        | 1, h => exact h
        | 2, h => exact h
        | _ + 3, h => exact h
      · refine ⟨fun γ wx hS h => ?_, fun γ wx hS h => ?_, fun γ wx hS h => ?_, trivial⟩
        · refine ⟨_, rfl, ?_⟩
          refine predOp_val (v := .agg (fcs F).toArray) ?_ ?_ ?_
          · kernel_rfl
          · exact exec_load_blk 54 (.tmp 3) rfl A rfl 54 (fcs F).toArray (0, 0) _ hS.1 Try.underlying54 rfl info54s
          · rfl
        · refine ⟨_, rfl, ?_⟩
          refine predOp_val (v := .bool false) ?_ ?_ ?_
          · kernel_rfl
          · simp only [putE]
            first | rfl | (go_simp; done) | (go_simp; rfl)
          · rfl
        · have h1 := h
          have e1 : γ 1 = .bool false := h1
          refine ⟨_, rfl, ?_⟩
          refine predOp_val (v := .int .i64 1) ?_ ?_ ?_
          · kernel_rfl
          · simp only [putE]
            first | rfl | (go_simp; done) | (go_simp; rfl)
          · rfl
      · refine ⟨fun γ wx hS h => ?_, trivial⟩
        · refine ⟨_, .bool false, rfl, Or.inl ⟨rfl, fun wz => by first | rfl | (simp only [putE]; first | rfl | (go_simp; done) | (go_simp; rfl))⟩, rfl⟩
      · intro γ w9 hS h
        have e0 : γ 0 = .agg (fcs F).toArray := h.1
        have e1 : γ 1 = .bool false := h.2.1
        have e2 : γ 2 = .int .i64 1 := h.2.2
        simp only [putE, Act.put, List.setIfInBounds_toArray, List.set_cons_zero, List.set_cons_succ]
        rw [e0, e1, e2]
        have S9 := Kp.mk hS
        clear h hS e0 e1 e2
        refine wpOps_step rfl rfl ?_
        refine wp_store_rowD rfl 54 (.tmp 8) (.tmp 20) rfl (A + 2) (fcs F).toArray rfl rfl 54 _ S9.out.2.1 info54s rfl (fcs_one _) ?_
        refine wpOps_done ?_
        refine ex_worldF (fun W => Blk W (A + 2) (.cells (fcs F).toArray 54) ∧ Below A w W) ⟨S9.out.2.1.setRowF _, below_setRowF S9.out.2.2 (by omega) _⟩ ?_
        rintro W9 hW
        have H9 := Kp.mk hW
        clear hW S9
        go_wp2_with fail
        exact bodyPost_ret (results_tmp2_rowF rfl _ _ (A + 2) 54 (fcs F).toArray (0, 0) _ (.bool false) (.int .i64 1) rfl rfl rfl H9.out.1 Try.underlying54 rfl info54s) rfl ⟨by rw [PU.out, PE.out, PF.out], by rw [← HAe.out]; exact H9.out.2⟩
    · obtain ⟨j, rfl⟩ : ∃ j : Nat, d = j := ⟨d.toNat, by omega⟩
      have hj : j < 8 := by omega
      have HJ := Kp.mk hj
      clear h0 h8
      go_enter Try.func30, Try.ntmps30
      go_wp2_with (refine wpList_box_eq rfl 54 (.tmp 0) rfl _ rfl _ _ (hC _) ?_)
      rw [← hA]
      refine (refRight_any _ _ _ _).mono ?_
      rintro r w1 ⟨rfl, hb⟩
      have B1 := Kp.mk (HB.out.keep hb)
      have K1 := Kp.mk (HK.out.keep hb)
      have Z1 := Kp.mk (HZ.out.keep hb)
      have E1 : Kp (Below A w w1) := ⟨HE.out.trans (hb.mono (by simp; omega))⟩
      clear hb hC hA HB HK HZ HE
      cases hr : rightB x.1 x.2.1 x.2.2 with
      | false =>
        have PU : Kp (raiseU F j x = false) := ⟨by rw [HU.out, hr]; simp⟩
        have PE : Kp (raiseE j x = 1) := ⟨by rw [HEE.out, hr]; simp⟩
        have PF : Kp (raiseF F j x = F) := ⟨by rw [HFF.out, PU.out]; rfl⟩
        clear HU HEE HFF hr
        go_wp2_with fail
        have ST : Kp (Blk w1 A (.cells (fcs F).toArray 54) ∧ Blk w1 (A + 2) (.cells (fcs fun _ => none).toArray 54) ∧ Below A w w1) := ⟨⟨B1.out, Z1.out, E1.out⟩⟩
        clear B1 K1 Z1 E1
        refine wp_region_predQ (fun w' => Blk w' A (.cells (fcs F).toArray 54) ∧ Blk w' (A + 2) (.cells (fcs fun _ => none).toArray 54) ∧ Below A w w') [0, 1, 2] [1] [3]
          (fun ι w' v => match ι with
            | 0 => v = .agg (fcs F).toArray
            | 1 => v = .bool false
            | 2 => v = .int .i64 1
            | _ => v = .bool true)
          [[], [], [(1, some 6)]]
          [[]]
          [(0, some 20), (1, some 6), (2, some 7)]
          (by kernel_rfl) (by kernel_rfl) (by kernel_rfl) (by kernel_rfl) (by kernel_rfl) (by kernel_rfl) (by kernel_rfl) (by decide) (by decide) (fun w1 w2 h hb => ⟨h.1.keep hb, h.2.1.keep hb, h.2.2.trans (hb.mono (Nat.le_of_lt h.1.lt))⟩) (fun c a w d v h => by cases d <;> exact h) ?_ ⟨ST.out.1.keep (Below.refl _ _).drew, ST.out.2.1.keep (Below.refl _ _).drew, ST.out.2.2.drew⟩ ?_ ?_ ?_
        · intro ι w1 w2 v h hb
          match ι, h with
          | 0, h => exact h
          | 1, h => exact h
          | 2, h => exact h
          | _ + 3, h => exact h
        · refine ⟨fun γ wx hS h => ?_, fun γ wx hS h => ?_, fun γ wx hS h => ?_, trivial⟩
          · refine ⟨_, rfl, ?_⟩
            refine predOp_val (v := .agg (fcs F).toArray) ?_ ?_ ?_
            · kernel_rfl
            · exact exec_load_blk 54 (.tmp 3) rfl A rfl 54 (fcs F).toArray (0, 0) _ hS.1 Try.underlying54 rfl info54s
            · rfl
          · refine ⟨_, rfl, ?_⟩
            refine predOp_val (v := .bool false) ?_ ?_ ?_
            · kernel_rfl
            · simp only [putE]
              first | rfl | (go_simp; done) | (go_simp; rfl)
            · rfl
          · have h1 := h
            have e1 : γ 1 = .bool false := h1
            refine ⟨_, rfl, ?_⟩
            refine predOp_val (v := .int .i64 1) ?_ ?_ ?_
            · kernel_rfl
            · simp only [putE]
              first | rfl | (go_simp; done) | (go_simp; rfl)
            · rfl
        · refine ⟨fun γ wx hS h => ?_, trivial⟩
          · refine ⟨_, .bool false, rfl, Or.inl ⟨rfl, fun wz => by first | rfl | (simp only [putE]; first | rfl | (go_simp; done) | (go_simp; rfl))⟩, rfl⟩
        · intro γ w9 hS h
          have e0 : γ 0 = .agg (fcs F).toArray := h.1
          have e1 : γ 1 = .bool false := h.2.1
          have e2 : γ 2 = .int .i64 1 := h.2.2
          simp only [putE, Act.put, List.setIfInBounds_toArray, List.set_cons_zero, List.set_cons_succ]
          rw [e0, e1, e2]
          have S9 := Kp.mk hS
          clear h hS e0 e1 e2
          refine wpOps_step rfl rfl ?_
          refine wp_store_rowD rfl 54 (.tmp 8) (.tmp 20) rfl (A + 2) (fcs F).toArray rfl rfl 54 _ S9.out.2.1 info54s rfl (fcs_one _) ?_
          refine wpOps_done ?_
          refine ex_worldF (fun W => Blk W (A + 2) (.cells (fcs F).toArray 54) ∧ Below A w W) ⟨S9.out.2.1.setRowF _, below_setRowF S9.out.2.2 (by omega) _⟩ ?_
          rintro W9 hW
          have H9 := Kp.mk hW
          clear hW S9
          go_wp2_with fail
          exact bodyPost_ret (results_tmp2_rowF rfl _ _ (A + 2) 54 (fcs F).toArray (0, 0) _ (.bool false) (.int .i64 1) rfl rfl rfl H9.out.1 Try.underlying54 rfl info54s) rfl ⟨by rw [PU.out, PE.out, PF.out], by rw [← HAe.out]; exact H9.out.2⟩
      | true =>
        have PE : Kp (raiseE j x = 0) := ⟨by rw [HEE.out, hr]; simp; omega⟩
        have PU0 : Kp (raiseU F j x = !((F j).isSome && decide (cmp3 x (gk F j) ≤ 0))) := ⟨by rw [HU.out, hr]; simp [show (0 : Int) ≤ j by omega, show (j : Int) < 8 by omega]⟩
        clear HU HEE hr
        go_wp2_with fail
        have Q1 := Kp.mk (fcs_has F j hj)
        have Q2 := Kp.mk (fcs_is F j hj)
        have c0 : w1.cell? ⟨A, j, none⟩ = some (.bool (F j).isSome) := (B1.out.cell j).trans Q1.out
        have c1 : w1.cell? ⟨A, 8 + j * 3, none⟩ = some (.int .u32 (gk F j).1) := (B1.out.cell _).trans Q2.out.1
        have c2 : w1.cell? ⟨A, 8 + j * 3 + 1, none⟩ = some (.int .u32 (gk F j).2.1) := (B1.out.cell _).trans Q2.out.2.1
        have c3 : w1.cell? ⟨A, 8 + j * 3 + 2, none⟩ = some (.int .i64 (gk F j).2.2) := (B1.out.cell _).trans Q2.out.2.2
        obtain ⟨k0, k1, k2, -⟩ := K1.out.three
        have lA := B1.out.lt
        have lK := K1.out.lt
        cases hh : (F j).isSome with
        | false =>
          have PU : Kp (raiseU F j x = true) := ⟨by rw [PU0.out, hh]; rfl⟩
          have PF : Kp (raiseF F j x = updF F j x) := ⟨by rw [HFF.out, PU.out]; rfl⟩
          rw [hh] at c0
          clear PU0 HFF hh
          have f0 : w1.frozen? ⟨A, j, none⟩ = false := B1.out.frozen j
          have e0 : w1.cell? ⟨A, j, none⟩ = some (.bool (F j).isSome) := (B1.out.cell j).trans Q1.out
          have B5 : Kp (Blk (w1.setCell ⟨A, j, none⟩ (.bool true)) A (.cells ((fcs F).toArray.setIfInBounds j (.bool true)) 54)) := ⟨B1.out.set j _⟩
          have K5 : Kp (Blk (w1.setCell ⟨A, j, none⟩ (.bool true)) (A + 1) (.cells #[.int .u32 x.1, .int .u32 x.2.1, .int .i64 x.2.2] 24)) := ⟨K1.out.setOther (by show A ≠ A + 1; omega) _⟩
          have Z5 : Kp (Blk (w1.setCell ⟨A, j, none⟩ (.bool true)) (A + 2) (.cells (fcs fun _ => none).toArray 54)) := ⟨Z1.out.setOther (by show A ≠ A + 2; omega) _⟩
          have E5 : Kp (Below A w (w1.setCell ⟨A, j, none⟩ (.bool true))) := ⟨E1.out.setCell (by show A ≤ A; omega) _⟩
          have d1 : (w1.setCell ⟨A, j, none⟩ (.bool true)).cell? ⟨A, 8 + j * 3, none⟩ = some (.int .u32 (gk F j).1) := (B5.out.cell _).trans ((fcs_at1 F j HJ.out _ (by omega)).trans Q2.out.1)
          have d2 : (w1.setCell ⟨A, j, none⟩ (.bool true)).cell? ⟨A, 8 + j * 3 + 1, none⟩ = some (.int .u32 (gk F j).2.1) := (B5.out.cell _).trans ((fcs_at1 F j HJ.out _ (by omega)).trans Q2.out.2.1)
          have d3 : (w1.setCell ⟨A, j, none⟩ (.bool true)).cell? ⟨A, 8 + j * 3 + 2, none⟩ = some (.int .i64 (gk F j).2.2) := (B5.out.cell _).trans ((fcs_at1 F j HJ.out _ (by omega)).trans Q2.out.2.2)
          have g1 : (w1.setCell ⟨A, j, none⟩ (.bool true)).frozen? ⟨A, 8 + j * 3, none⟩ = false := B5.out.frozen _
          have g2 : (w1.setCell ⟨A, j, none⟩ (.bool true)).frozen? ⟨A, 8 + j * 3 + 1, none⟩ = false := B5.out.frozen _
          have g3 : (w1.setCell ⟨A, j, none⟩ (.bool true)).frozen? ⟨A, 8 + j * 3 + 2, none⟩ = false := B5.out.frozen _
          have m0 : (w1.setCell ⟨A, j, none⟩ (.bool true)).cell? ⟨A + 1, 0, none⟩ = some (.int .u32 x.1) := K5.out.cell 0
          have m1 : (w1.setCell ⟨A, j, none⟩ (.bool true)).cell? ⟨A + 1, 1, none⟩ = some (.int .u32 x.2.1) := K5.out.cell 1
          have m2 : (w1.setCell ⟨A, j, none⟩ (.bool true)).cell? ⟨A + 1, 2, none⟩ = some (.int .i64 x.2.2) := K5.out.cell 2
          clear e0
          go_region
          go_wp2_with fail
          refine wp_worldF (fun W => Blk W A (.cells (fcs (updF F j x)).toArray 54) ∧ Blk W (A + 2) (.cells (fcs fun _ => none).toArray 54) ∧ Below A w W) ⟨(by have h9 := ((B5.out.set (8 + j * 3) (.int .u32 x.1)).set (8 + j * 3 + 1) (.int .u32 x.2.1)).set (8 + j * 3 + 2) (.int .i64 x.2.2); rw [fcs_put F x j HJ.out] at h9; exact h9), ((Z5.out.setOther (p := ⟨A, 8 + j * 3, none⟩) (by show A ≠ A + 2; omega) _).setOther (p := ⟨A, 8 + j * 3 + 1, none⟩) (by show A ≠ A + 2; omega) _).setOther (p := ⟨A, 8 + j * 3 + 2, none⟩) (by show A ≠ A + 2; omega) _, (((E5.out.setCell (p := ⟨A, 8 + j * 3, none⟩) (by show A ≤ A; omega) _).setCell (p := ⟨A, 8 + j * 3 + 1, none⟩) (by show A ≤ A; omega) _).setCell (p := ⟨A, 8 + j * 3 + 2, none⟩) (by show A ≤ A; omega) _).drew⟩ ?_
          intro W hW
          have ST := Kp.mk hW
          clear hW
          refine wp_region_predQ (fun w' => Blk w' A (.cells (fcs (updF F j x)).toArray 54) ∧ Blk w' (A + 2) (.cells (fcs fun _ => none).toArray 54) ∧ Below A w w') [0, 1, 2] [1] [3]
            (fun ι w' v => match ι with
              | 0 => v = .agg (fcs (updF F j x)).toArray
              | 2 => v = .int .i64 0
              | _ => v = .bool true)
            [[], [], [(1, some 6)]]
            [[]]
            [(0, some 42), (1, some 6), (2, some 7)]
            (by kernel_rfl) (by kernel_rfl) (by kernel_rfl) (by kernel_rfl) (by kernel_rfl) (by kernel_rfl) (by kernel_rfl) (by decide) (by decide) (fun w1 w2 h hb => ⟨h.1.keep hb, h.2.1.keep hb, h.2.2.trans (hb.mono (Nat.le_of_lt h.1.lt))⟩) (fun c a w d v h => by cases d <;> exact h) ?_ ⟨ST.out.1.keep (Below.refl _ _).drew, ST.out.2.1.keep (Below.refl _ _).drew, ST.out.2.2.drew⟩ ?_ ?_ ?_
          · intro ι w1 w2 v h hb
            match ι, h with
            | 0, h => exact h
            | 1, h => exact h
            | 2, h => exact h
            | _ + 3, h => exact h
          · refine ⟨fun γ wx hS h => ?_, fun γ wx hS h => ?_, fun γ wx hS h => ?_, trivial⟩
            · refine ⟨_, rfl, ?_⟩
              refine predOp_val (v := .agg (fcs (updF F j x)).toArray) ?_ ?_ ?_
              · kernel_rfl
              · exact exec_load_blk 54 (.tmp 3) rfl A rfl 54 (fcs (updF F j x)).toArray (0, 0) _ hS.1 Try.underlying54 rfl info54s
              · rfl
            · refine ⟨_, rfl, ?_⟩
              refine predOp_val (v := .bool true) ?_ ?_ ?_
              · kernel_rfl
              · simp only [putE]
                first | rfl | (go_simp; done) | (go_simp; rfl)
              · rfl
            · have h1 := h
              have e1 : γ 1 = .bool true := h1
              refine ⟨_, rfl, ?_⟩
              refine predOp_val (v := .int .i64 0) ?_ ?_ ?_
              · kernel_rfl
              · simp only [putE]
                first | rfl | (go_simp; done) | (go_simp; rfl)
              · rfl
          · refine ⟨fun γ wx hS h => ?_, trivial⟩
            · refine ⟨_, .bool true, rfl, Or.inl ⟨rfl, fun wz => by first | rfl | (simp only [putE]; first | rfl | (go_simp; done) | (go_simp; rfl))⟩, rfl⟩
          · intro γ w9 hS h
            have e0 : γ 0 = .agg (fcs (updF F j x)).toArray := h.1
            have e1 : γ 1 = .bool true := h.2.1
            have e2 : γ 2 = .int .i64 0 := h.2.2
            simp only [putE, Act.put, List.setIfInBounds_toArray, List.set_cons_zero, List.set_cons_succ]
            rw [e0, e1, e2]
            have S9 := Kp.mk hS
            clear h hS e0 e1 e2
            refine wpOps_step rfl rfl ?_
            refine wp_store_rowD rfl 54 (.tmp 8) (.tmp 42) rfl (A + 2) (fcs (updF F j x)).toArray rfl rfl 54 _ S9.out.2.1 info54s rfl (fcs_one _) ?_
            refine wpOps_done ?_
            refine ex_worldF (fun W => Blk W (A + 2) (.cells (fcs (updF F j x)).toArray 54) ∧ Below A w W) ⟨S9.out.2.1.setRowF _, below_setRowF S9.out.2.2 (by omega) _⟩ ?_
            rintro W9 hW
            have H9 := Kp.mk hW
            clear hW S9
            go_wp2_with fail
            exact bodyPost_ret (results_tmp2_rowF rfl _ _ (A + 2) 54 (fcs (updF F j x)).toArray (0, 0) _ (.bool true) (.int .i64 0) rfl rfl rfl H9.out.1 Try.underlying54 rfl info54s) rfl ⟨by rw [PU.out, PE.out, PF.out], by rw [← HAe.out]; exact H9.out.2⟩
        | true =>
          rw [hh] at c0
          rw [hh] at PU0
          clear hh
          cases hbt : btr x (gk F j) with
          | false =>
            have HBT : Kp (betterB x.1 x.2.1 x.2.2 (gk F j).1 (gk F j).2.1 (gk F j).2.2 = false) := ⟨hbt⟩
            have PU : Kp (raiseU F j x = false) := ⟨by rw [PU0.out, rai_eq, hbt]; rfl⟩
            have PF : Kp (raiseF F j x = F) := ⟨by rw [HFF.out, PU.out]; rfl⟩
            clear PU0 HFF hbt
            go_region_with (go_at_call 48; refine (better_any x.1 x.2.1 x.2.2 (gk F j).1 (gk F j).2.1 (gk F j).2.2 _).mono ?_; rintro r w3 ⟨rfl, hb⟩; rw [HBT.out]; have HB3 : Kp (Below w1.heap.size w1 w3) := ⟨⟨hb.os, hb.tape, hb.output, hb.size, hb.block⟩⟩; clear hb)
            all_goals simp only [List.getElem_toArray, List.getElem_cons_succ, List.getElem_cons_zero, Act.put, List.setIfInBounds_toArray, List.set_cons_zero, List.set_cons_succ]
            all_goals go_wp2_with fail
            all_goals
              have B3 := Kp.mk (B1.out.keep HB3.out)
              have K3 := Kp.mk (K1.out.keep HB3.out)
              have Z3 := Kp.mk (Z1.out.keep HB3.out)
              have E3 : Kp (Below A w w3) := ⟨E1.out.trans (HB3.out.mono (Nat.le_of_lt B1.out.lt))⟩
              refine wp_worldF (fun W => Blk W A (.cells (fcs F).toArray 54) ∧ Blk W (A + 2) (.cells (fcs fun _ => none).toArray 54) ∧ Below A w W) ⟨B3.out, Z3.out, E3.out⟩ ?_
              intro W hW
              have ST := Kp.mk hW
              clear hW
              refine wp_region_predQ (fun w' => Blk w' A (.cells (fcs F).toArray 54) ∧ Blk w' (A + 2) (.cells (fcs fun _ => none).toArray 54) ∧ Below A w w') [0, 1, 2] [1] [3]
                (fun ι w' v => match ι with
                  | 0 => v = .agg (fcs F).toArray
                  | 1 => v = .bool false
                  | 2 => v = .int .i64 0
                  | _ => v = .bool true)
                [[], [], [(1, some 6)]]
                [[]]
                [(0, some 34), (1, some 6), (2, some 7)]
                (by kernel_rfl) (by kernel_rfl) (by kernel_rfl) (by kernel_rfl) (by kernel_rfl) (by kernel_rfl) (by kernel_rfl) (by decide) (by decide) (fun w1 w2 h hb => ⟨h.1.keep hb, h.2.1.keep hb, h.2.2.trans (hb.mono (Nat.le_of_lt h.1.lt))⟩) (fun c a w d v h => by cases d <;> exact h) ?_ ⟨ST.out.1.keep (Below.refl _ _).drew, ST.out.2.1.keep (Below.refl _ _).drew, ST.out.2.2.drew⟩ ?_ ?_ ?_
              · intro ι w1 w2 v h hb
                match ι, h with
                | 0, h => exact h
                | 1, h => exact h
                | 2, h => exact h
                | _ + 3, h => exact h
              · refine ⟨fun γ wx hS h => ?_, fun γ wx hS h => ?_, fun γ wx hS h => ?_, trivial⟩
                · refine ⟨_, rfl, ?_⟩
                  refine predOp_val (v := .agg (fcs F).toArray) ?_ ?_ ?_
                  · kernel_rfl
                  · exact exec_load_blk 54 (.tmp 3) rfl A rfl 54 (fcs F).toArray (0, 0) _ hS.1 Try.underlying54 rfl info54s
                  · rfl
                · refine ⟨_, rfl, ?_⟩
                  refine predOp_val (v := .bool false) ?_ ?_ ?_
                  · kernel_rfl
                  · simp only [putE]
                    first | rfl | (go_simp; done) | (go_simp; rfl)
                  · rfl
                · have h1 := h
                  have e1 : γ 1 = .bool false := h1
                  refine ⟨_, rfl, ?_⟩
                  refine predOp_val (v := .int .i64 0) ?_ ?_ ?_
                  · kernel_rfl
                  · simp only [putE]
                    first | rfl | (go_simp; done) | (go_simp; rfl)
                  · rfl
              · refine ⟨fun γ wx hS h => ?_, trivial⟩
                · refine ⟨_, .bool false, rfl, Or.inl ⟨rfl, fun wz => by first | rfl | (simp only [putE]; first | rfl | (go_simp; done) | (go_simp; rfl))⟩, rfl⟩
              · intro γ w9 hS h
                have e0 : γ 0 = .agg (fcs F).toArray := h.1
                have e1 : γ 1 = .bool false := h.2.1
                have e2 : γ 2 = .int .i64 0 := h.2.2
                simp only [putE, Act.put, List.setIfInBounds_toArray, List.set_cons_zero, List.set_cons_succ]
                rw [e0, e1, e2]
                have S9 := Kp.mk hS
                clear h hS e0 e1 e2
                refine wpOps_step rfl rfl ?_
                refine wp_store_rowD rfl 54 (.tmp 8) (.tmp 34) rfl (A + 2) (fcs F).toArray rfl rfl 54 _ S9.out.2.1 info54s rfl (fcs_one _) ?_
                refine wpOps_done ?_
                refine ex_worldF (fun W => Blk W (A + 2) (.cells (fcs F).toArray 54) ∧ Below A w W) ⟨S9.out.2.1.setRowF _, below_setRowF S9.out.2.2 (by omega) _⟩ ?_
                rintro W9 hW
                have H9 := Kp.mk hW
                clear hW S9
                go_wp2_with fail
                exact bodyPost_ret (results_tmp2_rowF rfl _ _ (A + 2) 54 (fcs F).toArray (0, 0) _ (.bool false) (.int .i64 0) rfl rfl rfl H9.out.1 Try.underlying54 rfl info54s) rfl ⟨by rw [PU.out, PE.out, PF.out], by rw [← HAe.out]; exact H9.out.2⟩
          | true =>
            have HBT : Kp (betterB x.1 x.2.1 x.2.2 (gk F j).1 (gk F j).2.1 (gk F j).2.2 = true) := ⟨hbt⟩
            have PU : Kp (raiseU F j x = true) := ⟨by rw [PU0.out, rai_eq, hbt]; rfl⟩
            have PF : Kp (raiseF F j x = updF F j x) := ⟨by rw [HFF.out, PU.out]; rfl⟩
            clear PU0 HFF hbt
            go_region_with (go_at_call 48; refine (better_any x.1 x.2.1 x.2.2 (gk F j).1 (gk F j).2.1 (gk F j).2.2 _).mono ?_; rintro r w3 ⟨rfl, hb⟩; rw [HBT.out]; have HB3 : Kp (Below w1.heap.size w1 w3) := ⟨⟨hb.os, hb.tape, hb.output, hb.size, hb.block⟩⟩; clear hb)
            all_goals simp only [List.getElem_toArray, List.getElem_cons_succ, List.getElem_cons_zero, Act.put, List.setIfInBounds_toArray, List.set_cons_zero, List.set_cons_succ]
            all_goals clear c0 c1 c2 c3 k0 k1 k2
            all_goals
              have B3 := Kp.mk (B1.out.keep HB3.out)
              have K3 := Kp.mk (K1.out.keep HB3.out)
              have Z3 := Kp.mk (Z1.out.keep HB3.out)
              have E3 : Kp (Below A w w3) := ⟨E1.out.trans (HB3.out.mono (Nat.le_of_lt B1.out.lt))⟩
              have f0 : w3.frozen? ⟨A, j, none⟩ = false := B3.out.frozen j
              have e0 : w3.cell? ⟨A, j, none⟩ = some (.bool (F j).isSome) := (B3.out.cell j).trans Q1.out
              have B5 : Kp (Blk (w3.setCell ⟨A, j, none⟩ (.bool true)) A (.cells ((fcs F).toArray.setIfInBounds j (.bool true)) 54)) := ⟨B3.out.set j _⟩
              have K5 : Kp (Blk (w3.setCell ⟨A, j, none⟩ (.bool true)) (A + 1) (.cells #[.int .u32 x.1, .int .u32 x.2.1, .int .i64 x.2.2] 24)) := ⟨K3.out.setOther (by show A ≠ A + 1; omega) _⟩
              have Z5 : Kp (Blk (w3.setCell ⟨A, j, none⟩ (.bool true)) (A + 2) (.cells (fcs fun _ => none).toArray 54)) := ⟨Z3.out.setOther (by show A ≠ A + 2; omega) _⟩
              have E5 : Kp (Below A w (w3.setCell ⟨A, j, none⟩ (.bool true))) := ⟨E3.out.setCell (by show A ≤ A; omega) _⟩
              have d1 : (w3.setCell ⟨A, j, none⟩ (.bool true)).cell? ⟨A, 8 + j * 3, none⟩ = some (.int .u32 (gk F j).1) := (B5.out.cell _).trans ((fcs_at1 F j HJ.out _ (by omega)).trans Q2.out.1)
              have d2 : (w3.setCell ⟨A, j, none⟩ (.bool true)).cell? ⟨A, 8 + j * 3 + 1, none⟩ = some (.int .u32 (gk F j).2.1) := (B5.out.cell _).trans ((fcs_at1 F j HJ.out _ (by omega)).trans Q2.out.2.1)
              have d3 : (w3.setCell ⟨A, j, none⟩ (.bool true)).cell? ⟨A, 8 + j * 3 + 2, none⟩ = some (.int .i64 (gk F j).2.2) := (B5.out.cell _).trans ((fcs_at1 F j HJ.out _ (by omega)).trans Q2.out.2.2)
              have g1 : (w3.setCell ⟨A, j, none⟩ (.bool true)).frozen? ⟨A, 8 + j * 3, none⟩ = false := B5.out.frozen _
              have g2 : (w3.setCell ⟨A, j, none⟩ (.bool true)).frozen? ⟨A, 8 + j * 3 + 1, none⟩ = false := B5.out.frozen _
              have g3 : (w3.setCell ⟨A, j, none⟩ (.bool true)).frozen? ⟨A, 8 + j * 3 + 2, none⟩ = false := B5.out.frozen _
              have m0 : (w3.setCell ⟨A, j, none⟩ (.bool true)).cell? ⟨A + 1, 0, none⟩ = some (.int .u32 x.1) := K5.out.cell 0
              have m1 : (w3.setCell ⟨A, j, none⟩ (.bool true)).cell? ⟨A + 1, 1, none⟩ = some (.int .u32 x.2.1) := K5.out.cell 1
              have m2 : (w3.setCell ⟨A, j, none⟩ (.bool true)).cell? ⟨A + 1, 2, none⟩ = some (.int .i64 x.2.2) := K5.out.cell 2
              go_wp2_with fail
              refine wp_worldF (fun W => Blk W A (.cells (fcs (updF F j x)).toArray 54) ∧ Blk W (A + 2) (.cells (fcs fun _ => none).toArray 54) ∧ Below A w W) ⟨(by have h9 := ((B5.out.set (8 + j * 3) (.int .u32 x.1)).set (8 + j * 3 + 1) (.int .u32 x.2.1)).set (8 + j * 3 + 2) (.int .i64 x.2.2); rw [fcs_put F x j HJ.out] at h9; exact h9), ((Z5.out.setOther (p := ⟨A, 8 + j * 3, none⟩) (by show A ≠ A + 2; omega) _).setOther (p := ⟨A, 8 + j * 3 + 1, none⟩) (by show A ≠ A + 2; omega) _).setOther (p := ⟨A, 8 + j * 3 + 2, none⟩) (by show A ≠ A + 2; omega) _, ((E5.out.setCell (p := ⟨A, 8 + j * 3, none⟩) (by show A ≤ A; omega) _).setCell (p := ⟨A, 8 + j * 3 + 1, none⟩) (by show A ≤ A; omega) _).setCell (p := ⟨A, 8 + j * 3 + 2, none⟩) (by show A ≤ A; omega) _⟩ ?_
              intro W hW
              have ST := Kp.mk hW
              clear hW
              refine wp_region_predQ (fun w' => Blk w' A (.cells (fcs (updF F j x)).toArray 54) ∧ Blk w' (A + 2) (.cells (fcs fun _ => none).toArray 54) ∧ Below A w w') [0, 1, 2] [1] [3]
                (fun ι w' v => match ι with
                  | 0 => v = .agg (fcs (updF F j x)).toArray
                  | 2 => v = .int .i64 0
                  | _ => v = .bool true)
                [[], [], [(1, some 6)]]
                [[]]
                [(0, some 42), (1, some 6), (2, some 7)]
                (by kernel_rfl) (by kernel_rfl) (by kernel_rfl) (by kernel_rfl) (by kernel_rfl) (by kernel_rfl) (by kernel_rfl) (by decide) (by decide) (fun w1 w2 h hb => ⟨h.1.keep hb, h.2.1.keep hb, h.2.2.trans (hb.mono (Nat.le_of_lt h.1.lt))⟩) (fun c a w d v h => by cases d <;> exact h) ?_ ⟨ST.out.1.keep (Below.refl _ _).drew, ST.out.2.1.keep (Below.refl _ _).drew, ST.out.2.2.drew⟩ ?_ ?_ ?_
              · intro ι w1 w2 v h hb
                match ι, h with
                | 0, h => exact h
                | 1, h => exact h
                | 2, h => exact h
                | _ + 3, h => exact h
              · refine ⟨fun γ wx hS h => ?_, fun γ wx hS h => ?_, fun γ wx hS h => ?_, trivial⟩
                · refine ⟨_, rfl, ?_⟩
                  refine predOp_val (v := .agg (fcs (updF F j x)).toArray) ?_ ?_ ?_
                  · kernel_rfl
                  · exact exec_load_blk 54 (.tmp 3) rfl A rfl 54 (fcs (updF F j x)).toArray (0, 0) _ hS.1 Try.underlying54 rfl info54s
                  · rfl
                · refine ⟨_, rfl, ?_⟩
                  refine predOp_val (v := .bool true) ?_ ?_ ?_
                  · kernel_rfl
                  · simp only [putE]
                    first | rfl | (go_simp; done) | (go_simp; rfl)
                  · rfl
                · have h1 := h
                  have e1 : γ 1 = .bool true := h1
                  refine ⟨_, rfl, ?_⟩
                  refine predOp_val (v := .int .i64 0) ?_ ?_ ?_
                  · kernel_rfl
                  · simp only [putE]
                    first | rfl | (go_simp; done) | (go_simp; rfl)
                  · rfl
              · refine ⟨fun γ wx hS h => ?_, trivial⟩
                · refine ⟨_, .bool true, rfl, Or.inl ⟨rfl, fun wz => by first | rfl | (simp only [putE]; first | rfl | (go_simp; done) | (go_simp; rfl))⟩, rfl⟩
              · intro γ w9 hS h
                have e0 : γ 0 = .agg (fcs (updF F j x)).toArray := h.1
                have e1 : γ 1 = .bool true := h.2.1
                have e2 : γ 2 = .int .i64 0 := h.2.2
                simp only [putE, Act.put, List.setIfInBounds_toArray, List.set_cons_zero, List.set_cons_succ]
                rw [e0, e1, e2]
                have S9 := Kp.mk hS
                clear h hS e0 e1 e2
                refine wpOps_step rfl rfl ?_
                refine wp_store_rowD rfl 54 (.tmp 8) (.tmp 42) rfl (A + 2) (fcs (updF F j x)).toArray rfl rfl 54 _ S9.out.2.1 info54s rfl (fcs_one _) ?_
                refine wpOps_done ?_
                refine ex_worldF (fun W => Blk W (A + 2) (.cells (fcs (updF F j x)).toArray 54) ∧ Below A w W) ⟨S9.out.2.1.setRowF _, below_setRowF S9.out.2.2 (by omega) _⟩ ?_
                rintro W9 hW
                have H9 := Kp.mk hW
                clear hW S9
                go_wp2_with fail
                exact bodyPost_ret (results_tmp2_rowF rfl _ _ (A + 2) 54 (fcs (updF F j x)).toArray (0, 0) _ (.bool true) (.int .i64 0) rfl rfl rfl H9.out.1 Try.underlying54 rfl info54s) rfl ⟨by rw [PU.out, PE.out, PF.out], by rw [← HAe.out]; exact H9.out.2⟩

end Go.Proofs.Ytoembbdjpelogaa
