/-
  slate.settle.
-/
import Derived.Test.YtgikedbnnlckjaaSlD
namespace Go.Proofs.Ytgikedbnnlckjaa
open Go.RowKit

theorem predOp_val {P : Program} {ops : Array Oper} {o : Oper} {V : World → Value → Prop} {a : Act} {w : World} {v : Value} (hw : Region.wanted o (yielded ops a.tmps) = true) (he : (execOp a.eval o).run P w = .ok (.value v) w) (hv : V w v) : PredOp P ops o V a w := Or.inl ⟨hw, predRun_value he hv⟩
theorem setCells_heap {b k : Nat} (hne : k ≠ b) : ∀ (vs : List Value) (o : Nat) (w : World), (w.setCells b o vs).heap[k]? = w.heap[k]?
  | [], _, _ => rfl
  | v :: r, o, w => (setCells_heap hne r (o + 1) _).trans (Below.heap_setCell _ _ _ _ hne)
theorem setCells_size {b : Nat} : ∀ (vs : List Value) (o : Nat) (w : World), (w.setCells b o vs).heap.size = w.heap.size
  | [], _, _ => rfl
  | v :: r, o, w => (setCells_size r (o + 1) _).trans (by simp [World.setCell])
theorem setCells_rest {b : Nat} : ∀ (vs : List Value) (o : Nat) (w : World), (w.setCells b o vs).os = w.os ∧ (w.setCells b o vs).tape = w.tape ∧ (w.setCells b o vs).output = w.output
  | [], _, _ => ⟨rfl, rfl, rfl⟩
  | v :: r, o, w => (setCells_rest r (o + 1) (w.setCell ⟨b, o, none⟩ v))

theorem SlStep.drew {g : Nat} {v v' : Value} {s' : SlS} {w w' : World} (h : SlStep g v v' s' w w') : SlStep g v v' s' w w'.drew := ⟨h.os, h.tape, h.output, h.size, h.is.drew, h.other, h.own⟩
theorem cells35L {l : List Int} (h : l.length = 64) : (Try.prog.info? 35).map (·.size) = some (kv .u8 l).length := by rw [List.length_map, h]; exact info35
theorem wcells_0 {k : Nat} {z : List Int} : (wcells (k, z)).toArray[0]? = some (.int .i64 k) := rfl
theorem wcells_mid {w : World} {C k : Nat} {z : List Int} (h : Blk w C (.cells (wcells (k, z)).toArray 82)) : w.rangeAt C 1 (kv .u8 z) := fun j v hv => by
  rw [h.cell (1 + j), List.getElem?_toArray, Nat.add_comm]
  exact hv
theorem splice_bytes {l z : List Int} {o : Nat} (h : Bytes l) (k : Bytes z) : Bytes (splice l o z) := by
  unfold splice
  exact (h.take _).append (k.append (h.drop _))
/-- A sector as it lasts. -/
theorem SlStep.lay {g k : Nat} {v : Value} {s : SlS} {z : List Int} {w : World} (h : SlIs w g v s) (hk : k < s.n) (hz : z.length = 64) (hb : Bytes z) : SlStep g v v { s with ls := splice s.ls (k * 64) z } w (w.setCells g (k * 64) (kv .u8 z)) := by
  have hl := h.k.ll
  have hfit : k * 64 + z.length ≤ s.ls.length := by rw [hz, hl]; omega
  have hr := setCells_rest (b := g) (kv .u8 z) (k * 64) w
  refine ⟨hr.1, hr.2.1, hr.2.2, by rw [setCells_size]; exact Nat.le_refl _, ⟨Blk.otherCells (by omega) _ _ _ h.b, Row.setCells z (k * 64) w s.ls hfit h.r, ?_, ⟨h.k.n1, ?_, splice_bytes h.k.lb hb, h.k.qq, h.k.sr, h.k.fr⟩⟩, fun j hj n1 _ _ => setCells_heap n1 _ _ _, .inl rfl⟩
  · refine h.o.kept (row := some g) ⟨hr.1, hr.2.1, hr.2.2, by rw [setCells_size]; exact Nat.le_refl _, fun j hj hne => setCells_heap (fun e => hne (by rw [e])) _ _ _⟩ ?_
    cases hv : v.ownBlock with
    | none => exact .inl rfl
    | some j =>
      refine .inr fun e => ?_
      have := (h.o.lt j hv).1
      simp at e
      omega
  · show (splice s.ls (k * 64) z).length = s.n * 64
    rw [length_splice _ _ _ hfit, hl]
/-- What the first i writes make of the sectors. -/
def settleL (ls : List Int) (q : List (Nat × List Int)) : List Int := q.foldl (fun l x => splice l (x.1 * 64) x.2) ls
theorem settleL_succ (ls : List Int) {q : List (Nat × List Int)} {i : Nat} (hi : i < q.length) : settleL ls (q.take (i + 1)) = splice (settleL ls (q.take i)) (q[i].1 * 64) q[i].2 := by
  unfold settleL
  rw [List.take_succ_eq_append_getElem hi, List.foldl_append]
  rfl
theorem qcells_len {q : List (Nat × List Int)} (h : ∀ x ∈ q, x.2.length = 64) : (qcells q).length = q.length * 65 := by
  induction q with
  | nil => rfl
  | cons x r ih =>
    have h1 := ih fun y hy => h y (List.mem_cons_of_mem _ hy)
    have h2 := h x List.mem_cons_self
    simp only [qcells, List.map_cons, List.flatten_cons, List.length_append, List.length_cons] at h1 ⊢
    rw [h1]
    simp [wcells, h2]
    omega
theorem qcells_at {q : List (Nat × List Int)} (h : ∀ x ∈ q, x.2.length = 64) {i : Nat} (hi : i < q.length) {j : Nat} {u : Value} (hu : (wcells q[i])[j]? = some u) : (qcells q)[i * 65 + j]? = some u := by
  have hj : j < 65 := by
    have := (List.getElem?_eq_some_iff.1 hu).1
    have h2 := h _ (List.getElem_mem hi)
    simp [wcells, h2] at this
    exact this
  have e : qcells q = qcells (q.take i) ++ (wcells q[i] ++ qcells (q.drop (i + 1))) := by
    unfold qcells
    conv => lhs; rw [← List.take_append_drop i q, List.map_append, List.flatten_append, List.drop_eq_getElem_cons hi, List.map_cons, List.flatten_cons]
  have hl : (qcells (q.take i)).length = i * 65 := by
    rw [qcells_len fun x hx => h x (List.mem_of_mem_take hx), List.length_take, Nat.min_eq_left (Nat.le_of_lt hi)]
  rw [e, List.getElem?_append_right (by omega), hl, Nat.add_sub_cancel_left, List.getElem?_append_left (by have := (List.getElem?_eq_some_iff.1 hu).1; exact this)]
  exact hu
theorem SlIs.at {w : World} {g : Nat} {v : Value} {s : SlS} (h : SlIs w g v s) {i : Nat} (hi : i < s.q.length) : ∃ qb cap, v = .slice (some ⟨qb, 0, none⟩) s.q.length cap ∧ s.q.length ≤ cap ∧ g + 2 ≤ qb ∧ qb < w.heap.size ∧ w.rangeAt qb (i * 65) (wcells s.q[i]) := by
  rcases h.o.2 with ⟨rfl, hn⟩ | ⟨qb, cap, cur, rfl, h1, h2, h3, h4, h5, h6⟩
  · omega
  · refine ⟨qb, cap, rfl, h3, h1, (Array.getElem?_eq_some_iff.1 h2).1, fun j u hu => ?_⟩
    have h7 := qcells_at (fun x hx => (h.k.qq x hx).2.1) hi hu
    rw [cell_of_row w qb (i * 65 + j) cur 82 (0, 0) h2]
    rw [← h6] at h7
    rw [← Array.getElem?_toList]
    rw [List.getElem?_take] at h7
    split at h7
    · exact h7
    · cases h7
def z82 : List Value := (List.replicate 65 (Value.int .u8 0)).set 0 (.int .i64 0)
theorem z82_len : z82.length = 65 := by simp [z82]
theorem infoz82 : (Try.prog.info? 82).map (fun i => (i.zero, i.size)) = some (some (.agg z82.toArray), 65) := by kernel_rfl
theorem info82s : (Try.prog.info? 82).map (·.size) = some 65 := by kernel_rfl
set_option maxRecDepth 100000 in
set_option maxHeartbeats 2000000 in
theorem settle_any (g m c : Nat) (a : Option Addr) (v : Value) (s : SlS) (w : World) (h : SlIs w g v s) (hm : m ≤ s.q.length) (hq : s.q.length ≤ 1000000) (hv : 0 < m → ∃ n c', v = .slice a n c') :
    Calls Try.prog 45 #[slP g, .slice a m c] w fun r w' => r = .returned (.tuple #[]) ∧ SlStep g v v { s with ls := settleL s.ls (s.q.take m) } w w' := by
  have HM := Kp.mk hm
  have HVA := Kp.mk hv
  have H := Kp.mk h
  clear h hv
  go_enter Try.func45, Try.ntmps45
  go_wp2_with fail
  go_loopw [8] (fun c wr => ∃ i : Nat, i ≤ m ∧ c = .int .i64 i ∧ Kp (SlStep g v v { s with ls := settleL s.ls (s.q.take i) } w wr)) (fun c _ => m - (intOf c).toNat)
  case atStart => exact ⟨0, by omega, rfl, ⟨SlStep.same H.out (Below.refl _ _)⟩⟩
  case round =>
    obtain ⟨i, hi, rfl, HF0⟩ := hrel
    by_cases hlt : i < m
    · have hlt' : (i : Int) < (m : Int) := by omega
      have hiq : i < s.q.length := by omega
      have hib : i ≤ 1000000 := by omega
      obtain ⟨k, z, hx⟩ : ∃ k z, s.q[i] = (k, z) := ⟨_, _, rfl⟩
      obtain ⟨hkn, hzl, hzb⟩ := H.out.k.qq _ (List.getElem_mem hiq)
      rw [hx] at hkn hzl hzb
      have HZl : Kp (z.length = 64) := ⟨hzl⟩
      have HZb : Kp (Bytes z) := ⟨hzb⟩
      have HN1 : Kp (settleL s.ls (s.q.take (i + 1)) = splice (settleL s.ls (s.q.take i)) (k * 64) z) := ⟨by rw [settleL_succ s.ls hiq, hx]⟩
      obtain ⟨s1, hs1⟩ : ∃ s1 : SlS, s1 = { s with ls := settleL s.ls (s.q.take i) } := ⟨_, rfl⟩
      have HKn : Kp (k < s1.n) := ⟨by rw [hs1]; exact hkn⟩
      have HS1 : Kp (({ s with ls := settleL s.ls (s.q.take (i + 1)) } : SlS) = { s1 with ls := splice s1.ls (k * 64) z }) := ⟨by rw [hs1, HN1.out]⟩
      obtain ⟨qb, cap, hve, hcap, hqb1, hqb2, hrng⟩ := HF0.out.is.at (i := i) hiq
      obtain ⟨n', c', hva⟩ := HVA.out (by omega)
      rw [hve] at hva
      simp only [Value.slice.injEq] at hva
      obtain ⟨rfl, -, -⟩ := hva
      have hrng2 : wr.rangeAt qb (i * 65) (wcells (k, z)) := by rw [← hx]; exact hrng
      have HRG := Kp.mk hrng2
      have HF : Kp (SlStep g v v s1 w wr) := ⟨by rw [hs1]; exact HF0.out⟩
      obtain ⟨C, hC⟩ : ∃ C, C = wr.heap.size := ⟨_, rfl⟩
      have HCe := Kp.mk hC
      have HGC : Kp (g + 1 < C) := ⟨by rw [hC]; exact HF.out.is.lt⟩
      have HW65 : Kp ((wcells (k, z)).length = 65) := ⟨by rw [wcells_len HZl.out]⟩
      have HVO : Kp (∀ j, v.ownBlock = some j → j < C) := ⟨fun j e => by rw [hC]; exact (HF.out.is.o.lt j e).2⟩
      obtain ⟨V, hV⟩ : ∃ V, V = (wr.alloc (.cells z82.toArray 82)).setRow C (wcells (k, z)).toArray := ⟨_, rfl⟩
      have E2 : Kp (Blk V C (.cells (wcells (k, z)).toArray 82)) := ⟨by rw [hV]; exact Blk.setRow (Blk.newAt _ hC) _⟩
      have E3 : Kp (SlStep g v v s1 w V) := ⟨by rw [hV]; exact SlStep.trans HF.out (SlStep.same HF.out.is (Below.row (more (Below.refl _ _) _) (by omega) _))⟩
      have E1 : Kp (SlIs V g v s1) := ⟨E3.out.is⟩
      have HV := Kp.mk hV.symm
      have HI65 : Kp ((Try.prog.info? 82).map (·.size) = some (wcells (k, z)).toArray.size) := ⟨by rw [List.size_toArray, HW65.out]; exact info82s⟩
      have HZ65 : Kp (z82.toArray.size = (wcells (k, z)).toArray.size) := ⟨by rw [List.size_toArray, List.size_toArray, HW65.out, z82_len]⟩
      have HA65 : Kp ((wcells (k, z)).toArray.all (·.oneCell') = true) := ⟨all_oneCell_toArray (wcells_one (k, z))⟩
      clear hx hkn hzl hzb hs1 hve hcap hrng hrng2 hC hV HF0
      go_wp2_with (first
        | (refine wpList_load_mid rfl 82 (.tmp 10) rfl qb (i * 65) rfl (wcells (k, z)) _ HRG.out Try.underlying82 rfl (by rw [HW65.out]; exact info82s) ?_)
        | (refine wpList_alloc_row rfl 82 rfl _ _ infoz82 ?_)
        | (rw [← HCe.out]; refine wpList_store_row rfl 82 (.tmp 5) (.tmp 11) rfl C (wcells (k, z)).toArray rfl rfl 82 _ (Blk.newAt _ HCe.out) HI65.out HZ65.out HA65.out ?_; refine wpl_world (· = V) HV.out ?_; clear HV; intro W0 e0; rw [e0]; clear e0))
      refine wp_region_pred (fun w' => SlIs w' g v s1 ∧ Blk w' C (.cells (wcells (k, z)).toArray 82) ∧ SlStep g v v s1 w w') [0, 1, 2, 3, 4, 5, 6, 7, 8] [9]
        (fun ι w' v => match ι with
          | 0 | 1 => v = slP g
          | 2 => v = .pointer (some ⟨g + 1, 0, none⟩)
          | 3 => v = .slice (some ⟨g, 0, none⟩) s1.n s1.n
          | 4 => v = .pointer (some ⟨C, 0, none⟩)
          | 5 => v = .int .i64 (k : Nat)
          | 6 => v = .pointer (some ⟨C, 1, none⟩)
          | 7 => v = sec z
          | 8 => v = .pointer (some ⟨g, k * 64, none⟩)
          | _ => v = .bool true)
        [[], [(0, some 12)], [(1, some 13)], [(2, some 14)], [], [(4, some 16)], [], [(6, some 18)], [(0, some 12), (1, some 13), (2, some 14), (3, some 15), (4, some 16), (5, some 17), (6, some 18), (7, some 19)]]
        [(0, some 12), (1, some 13), (2, some 14), (3, some 15), (4, some 16), (5, some 17), (6, some 18), (7, some 19), (8, some 20)]
        (by kernel_rfl) (by kernel_rfl) (by kernel_rfl) (by kernel_rfl) (by kernel_rfl) (by kernel_rfl) (by decide) (by decide) (fun w1 w2 h hb => ⟨h.1.keep hb, h.2.1.keep hb, SlStep.trans h.2.2 (SlStep.same h.1 hb)⟩) ?_ ⟨E1.out.drew, E2.out.draw, SlStep.drew E3.out⟩ ?_ ?_
      · intro ι w1 w2 v h hb
        match ι, h with
        | 0, h => exact h
        | 1, h => exact h
        | 2, h => exact h
        | 3, h => exact h
        | 4, h => exact h
        | 5, h => exact h
        | 6, h => exact h
        | 7, h => exact h
        | 8, h => exact h
        | _ + 9, h => exact h
      · refine ⟨fun γ wx hS h => ?_, fun γ wx hS h => ?_, fun γ wx hS h => ?_, fun γ wx hS h => ?_, fun γ wx hS h => ?_, fun γ wx hS h => ?_, fun γ wx hS h => ?_, fun γ wx hS h => ?_, fun γ wx hS h => ?_, trivial⟩
        · refine ⟨_, rfl, Or.inl ⟨rfl, predRun_value (v := slP g) (by simp only [putE]; first | rfl | (go_simp; done) | (go_simp; with_reducible rfl) | (go_simp; rfl)) rfl⟩⟩
        · have h0 := h
          have e0 : γ 0 = slP g := h0
          refine ⟨_, rfl, Or.inl ⟨rfl, predRun_value (v := slP g) (by simp only [putE, e0]; first | rfl | (go_simp; done) | (go_simp; with_reducible rfl) | (go_simp; rfl)) rfl⟩⟩
        · have h1 := h
          have e1 : γ 1 = slP g := h1
          refine ⟨_, rfl, ?_⟩
          refine predOp_val (v := .pointer (some ⟨g + 1, 0, none⟩)) ?_ ?_ ?_
          · kernel_rfl
          · simp only [putE, e1]
            go_simp
          · rfl
        · have h2 := h
          have e2 : γ 2 = .pointer (some ⟨g + 1, 0, none⟩) := h2
          have hcell := hS.1.cells.1.1
          refine ⟨_, rfl, ?_⟩
          refine predOp_val (v := .slice (some ⟨g, 0, none⟩) s1.n s1.n) ?_ ?_ ?_
          · kernel_rfl
          · simp only [putE, e2]
            go_simp
          · rfl
        · refine ⟨_, rfl, ?_⟩
          refine predOp_val (v := .pointer (some ⟨C, 0, none⟩)) ?_ ?_ ?_
          · kernel_rfl
          · simp only [putE]
            go_simp
          · rfl
        · have h4 := h
          have e4 : γ 4 = .pointer (some ⟨C, 0, none⟩) := h4
          have hcell := hS.2.1.cell 0
          rw [wcells_0] at hcell
          refine ⟨_, rfl, ?_⟩
          refine predOp_val (v := .int .i64 (k : Nat)) ?_ ?_ ?_
          · kernel_rfl
          · simp only [putE, e4]
            go_simp
          · rfl
        · refine ⟨_, rfl, ?_⟩
          refine predOp_val (v := .pointer (some ⟨C, 1, none⟩)) ?_ ?_ ?_
          · kernel_rfl
          · simp only [putE]
            go_simp
          · rfl
        · have h6 := h
          have e6 : γ 6 = .pointer (some ⟨C, 1, none⟩) := h6
          refine ⟨_, rfl, Or.inl ⟨rfl, predRun_value (v := sec z) (exec_load_mid (cs := kv .u8 z) rfl (by simp only [putE, e6]; rfl) (wcells_mid hS.2.1) Try.underlying35 rfl (cells35L HZl.out)) rfl⟩⟩
        · obtain ⟨h0, h1, h2, h3, h4, h5, h6, h7⟩ := h
          have e0 : γ 0 = slP g := h0
          have e1 : γ 1 = slP g := h1
          have e2 : γ 2 = .pointer (some ⟨g + 1, 0, none⟩) := h2
          have e3 : γ 3 = .slice (some ⟨g, 0, none⟩) s1.n s1.n := h3
          have e4 : γ 4 = .pointer (some ⟨C, 0, none⟩) := h4
          have e5 : γ 5 = .int .i64 (k : Nat) := h5
          have e6 : γ 6 = .pointer (some ⟨C, 1, none⟩) := h6
          have e7 : γ 7 = sec z := h7
          have hkn := HKn.out
          have hkn' : (k : Int) < (s1.n : Int) := by omega
          refine ⟨_, rfl, ?_⟩
          refine predOp_val (v := .pointer (some ⟨g, k * 64, none⟩)) ?_ ?_ ?_
          · kernel_rfl
          · simp only [putE, e0, e1, e2, e3, e4, e5, e6, e7]
            go_simp
          · rfl
      · intro γ w9 hS h
        have e7 : γ 7 = sec z := h.2.2.2.2.2.2.2.1
        have e8 : γ 8 = .pointer (some ⟨g, k * 64, none⟩) := h.2.2.2.2.2.2.2.2
        simp only [putE, Act.put, List.setIfInBounds_toArray, List.set_cons_zero, List.set_cons_succ]
        rw [e7, e8]
        have hk64 : k * 64 + 64 ≤ s1.ls.length := by rw [hS.1.k.ll]; have := HKn.out; omega
        have HTHR := Kp.mk (hS.1.r.there (o := k * 64) (n := 64) hk64)
        obtain ⟨V, hV⟩ : ∃ V, V = w9.setCells g (k * 64) (kv .u8 z) := ⟨_, rfl⟩
        have HF : Kp (SlStep g v v { s1 with ls := splice s1.ls (k * 64) z } w V) := ⟨by rw [hV]; exact SlStep.trans hS.2.2 (SlStep.lay hS.1 HKn.out HZl.out HZb.out)⟩
        have HV := Kp.mk hV
        clear h hS e7 e8 hV E1 E2 E3 hk64
        refine wpOps_step rfl rfl ?_
        refine wp_store_mid 35 (.tmp 20) (.tmp 19) rfl g (k * 64) (kv .u8 z).toArray ?hx ?hy ?ht (cells35 HZl.out) (kv_all _ _) ?_
        case hx => rfl
        case hy => rfl
        case ht => rw [kv_size, HZl.out]; exact HTHR.out
        rw [← HV.out]
        clear HV HTHR
        refine wpOps_done ?_
        go_wp2_with fail
        exact ⟨⟨i + 1, by omega, by go_num, ⟨by rw [HS1.out]; exact HF.out⟩⟩, by simp [intOf]; omega⟩
    · obtain rfl : i = m := by omega
      have hge : ¬ (i : Int) < (i : Int) := by omega
      go_wp2_with fail
      go_end0
      exact ⟨rfl, HF0.out⟩
end Go.Proofs.Ytgikedbnnlckjaa
