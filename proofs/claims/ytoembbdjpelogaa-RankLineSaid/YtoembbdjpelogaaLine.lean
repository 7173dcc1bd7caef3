/-
  The walk of the law RankLine: it returns true, and leaves all old memory as it was, whatever the numbers of the three keys.
-/
import Derived.Test.YtoembbdjpelogaaRank
import Derived.Test.YtoembbdjpelogaaFlowV
namespace Go.Proofs.Ytoembbdjpelogaa
open Go.RowKit

abbrev keyObj (t : TypeId) (e s m : Int) : Obj := .cells #[.int .u32 e, .int .u32 s, .int .i64 m] t

theorem compare_nonneg (e s m e' s' m' : Int) : 0 ≤ compareI e s m e' s' m' ↔ (e' < e ∨ e = e' ∧ (s' < s ∨ s = s' ∧ m ≤ m')) := by
  unfold compareI; repeat' split
  all_goals omega
theorem compare_trans {e s m e' s' m' e2 s2 m2 : Int} (h1 : 0 ≤ compareI e s m e' s' m') (h2 : 0 ≤ compareI e' s' m' e2 s2 m2) : 0 ≤ compareI e s m e2 s2 m2 := by
  rw [compare_nonneg] at *
  omega

set_option maxHeartbeats 3200000 in
theorem line_A (e s m e' s' m' e2 s2 m2 : Int) (w : World) (hc12 : compareI e s m e' s' m' = -1) (hc21 : compareI e' s' m' e s m = 1) (hn12 : newerB e s e' s' = false) (he : (e == e') = false) :
    Calls Try.prog 4 #[.agg #[.int .u32 e, .int .u32 s, .int .i64 m], .agg #[.int .u32 e', .int .u32 s', .int .i64 m'], .agg #[.int .u32 e2, .int .u32 s2, .int .i64 m2]] w fun r w' => r = .returned (.bool true) ∧ Below w.heap.size w w' := by
  have hw1 : IntKind.i64.wrap (-1) = -1 := by decide
  have hw2 : IntKind.i64.wrap 1 = 1 := by decide
  have hw3 : IntKind.i64.wrap 0 = 0 := by decide
  go_enter Try.func4, Try.ntmps4
  go_wp2_with fail
  refine wp_region_flow_vars (fun w' => Below w.heap.size w w' ∧ Blk w' w.heap.size (keyObj 24 e s m) ∧ Blk w' (w.heap.size + 1) (keyObj 24 e' s' m') ∧ Blk w' (w.heap.size + 2) (keyObj 24 e2 s2 m2))
    [0, 1, 2, 3, 4, 5] [6, 7, 8] [9, 10, 11] (fun _ => keyObj 26 0 0 0) (by kernel_rfl) (by kernel_rfl) (by kernel_rfl) (by decide) (fun _ _ h hb => ⟨thru h.1 hb, h.2.1.keep hb, h.2.2.1.keep hb, h.2.2.2.keep hb⟩)
    ⟨(more (more (more (Below.refl _ _) _) _) _).drew, (((Blk.new _ _).old _).old _).draw, ((Blk.newAt _ (by simp)).old _).draw, (Blk.newAt _ (by simp)).draw⟩ ?_ (by decide) ?_
  · intro i hi a wx
    simp only [List.mem_cons, List.not_mem_nil, or_false] at hi
    rcases hi with rfl | rfl | rfl
    all_goals (refine ⟨_, rfl, ?_⟩; go_simp)
  refine flowN_sel _ _ (by decide) ?_
  simp only [sel, List.filterMap_cons, List.filterMap_nil, List.getElem?_toArray, List.getElem?_cons_succ, List.getElem?_cons_zero]
  repeat (first
    | (apply Flow.value
       · rfl
       · (intro wx hS; have c1 := hS.2.1.cell; have c2 := hS.2.2.1.cell; have c3 := hS.2.2.2.cell; go_simp; with_reducible rfl)
       try simp only [Act.put, List.setIfInBounds_toArray, List.set_cons_zero, List.set_cons_succ])
    | (apply Flow.call
       · rfl
       · (intro wx hS; go_simp; constructor <;> with_reducible rfl)
       · (intro wx hS; exact to_any _ _ _ _)
       try simp only [Act.put, List.setIfInBounds_toArray, List.set_cons_zero, List.set_cons_succ]))
  refine Flow.done ?_
  intro γ w1 hS hn hg
  obtain ⟨b7, g7⟩ := Option.ne_none_iff_exists'.1 (hg 6 (by simp))
  obtain ⟨b8, g8⟩ := Option.ne_none_iff_exists'.1 (hg 7 (by simp))
  obtain ⟨b9, g9⟩ := Option.ne_none_iff_exists'.1 (hg 8 (by simp))
  obtain ⟨k7, l7⟩ := hn.blk 6 (by simp) b7 g7
  obtain ⟨k8, l8⟩ := hn.blk 7 (by simp) b8 g8
  obtain ⟨k9, l9⟩ := hn.blk 8 (by simp) b9 g9
  have n78 := hn.apart 6 (by simp) 7 (by simp) (by decide) b7 b8 g7 g8
  have n79 := hn.apart 6 (by simp) 8 (by simp) (by decide) b7 b9 g7 g9
  have n89 := hn.apart 7 (by simp) 8 (by simp) (by decide) b8 b9 g8 g9
  simp only [World.size_alloc] at l7 l8 l9
  simp only [putNew, g7, g8, g9, dstOf, List.getElem?_toArray, List.getElem?_cons_succ, List.getElem?_cons_zero, Option.bind_some, Act.put, List.setIfInBounds_toArray, List.set_cons_zero, List.set_cons_succ]
  obtain ⟨c70, c71, c72, f70, f71, f72⟩ := k7.three
  obtain ⟨c80, c81, c82, f80, f81, f82⟩ := k8.three
  obtain ⟨c90, c91, c92, f90, f91, f92⟩ := k9.three
  refine wpOps_step rfl (by rfl) ?_
  go_simp
  refine wpOps_step rfl (by rfl) ?_
  go_simp
  refine wpOps_step rfl (by rfl) ?_
  go_simp
  refine wpOps_done ?_
  have K7 := ((((((((k7.set 0 (.int .u32 e)).set 1 (.int .u32 s)).set 2 (.int .i64 m)).setOther (p := ⟨b8, 0, none⟩) n78.symm (.int .u32 e')).setOther (p := ⟨b8, 1, none⟩) n78.symm (.int .u32 s')).setOther (p := ⟨b8, 2, none⟩) n78.symm (.int .i64 m')).setOther (p := ⟨b9, 0, none⟩) n79.symm (.int .u32 e2)).setOther (p := ⟨b9, 1, none⟩) n79.symm (.int .u32 s2)).setOther (p := ⟨b9, 2, none⟩) n79.symm (.int .i64 m2)
  have K8 := ((((((((k8.setOther (p := ⟨b7, 0, none⟩) n78 (.int .u32 e)).setOther (p := ⟨b7, 1, none⟩) n78 (.int .u32 s)).setOther (p := ⟨b7, 2, none⟩) n78 (.int .i64 m)).set 0 (.int .u32 e')).set 1 (.int .u32 s')).set 2 (.int .i64 m')).setOther (p := ⟨b9, 0, none⟩) n89.symm (.int .u32 e2)).setOther (p := ⟨b9, 1, none⟩) n89.symm (.int .u32 s2)).setOther (p := ⟨b9, 2, none⟩) n89.symm (.int .i64 m2)
  have K9 := ((((((((k9.setOther (p := ⟨b7, 0, none⟩) n79 (.int .u32 e)).setOther (p := ⟨b7, 1, none⟩) n79 (.int .u32 s)).setOther (p := ⟨b7, 2, none⟩) n79 (.int .i64 m)).setOther (p := ⟨b8, 0, none⟩) n89 (.int .u32 e')).setOther (p := ⟨b8, 1, none⟩) n89 (.int .u32 s')).setOther (p := ⟨b8, 2, none⟩) n89 (.int .i64 m')).set 0 (.int .u32 e2)).set 1 (.int .u32 s2)).set 2 (.int .i64 m2)
  have HB := ((((((((hS.1.setCell (p := ⟨b7, 0, none⟩) (by simp; omega) (.int .u32 e)).setCell (p := ⟨b7, 1, none⟩) (by simp; omega) (.int .u32 s)).setCell (p := ⟨b7, 2, none⟩) (by simp; omega) (.int .i64 m)).setCell (p := ⟨b8, 0, none⟩) (by simp; omega) (.int .u32 e')).setCell (p := ⟨b8, 1, none⟩) (by simp; omega) (.int .u32 s')).setCell (p := ⟨b8, 2, none⟩) (by simp; omega) (.int .i64 m')).setCell (p := ⟨b9, 0, none⟩) (by simp; omega) (.int .u32 e2)).setCell (p := ⟨b9, 1, none⟩) (by simp; omega) (.int .u32 s2)).setCell (p := ⟨b9, 2, none⟩) (by simp; omega) (.int .i64 m2)
  have K7 : Blk _ b7 (keyObj 26 e s m) := K7
  have K8 : Blk _ b8 (keyObj 26 e' s' m') := K8
  have K9 : Blk _ b9 (keyObj 26 e2 s2 m2) := K9
  clear c70 c71 c72 f70 f71 f72 c80 c81 c82 f80 f81 f82 c90 c91 c92 f90 f91 f92 k7 k8 k9 hS hn hg g7 g8 g9
  revert K7 K8 K9 HB
  generalize (((((((((w1.setCell ⟨b7, 0, none⟩ (.int .u32 e)).setCell ⟨b7, 1, none⟩ (.int .u32 s)).setCell ⟨b7, 2, none⟩ (.int .i64 m)).setCell ⟨b8, 0, none⟩ (.int .u32 e')).setCell ⟨b8, 1, none⟩ (.int .u32 s')).setCell ⟨b8, 2, none⟩ (.int .i64 m')).setCell ⟨b9, 0, none⟩ (.int .u32 e2)).setCell ⟨b9, 1, none⟩ (.int .u32 s2)).setCell ⟨b9, 2, none⟩ (.int .i64 m2)) = W
  intro HB K7 K8 K9
  clear n78 n79 n89 l7 l8 l9
  go_wp2_with fail
  refine wp_region_flow (fun w' => Below w.heap.size w w' ∧ Blk w' b7 (keyObj 26 e s m) ∧ Blk w' b8 (keyObj 26 e' s' m') ∧ Blk w' b9 (keyObj 26 e2 s2 m2)) (by kernel_rfl) (by kernel_rfl) (by kernel_rfl)
    (fun _ _ h hb => ⟨thru h.1 hb, h.2.1.keep hb, h.2.2.1.keep hb, h.2.2.2.keep hb⟩) ⟨HB.drew, K7.draw, K8.draw, K9.draw⟩ ?_
  repeat (first
    | (apply Flow.idle
       · rfl
       try simp only [Act.put, List.setIfInBounds_toArray, List.set_cons_zero, List.set_cons_succ])
    | (apply Flow.value
       · rfl
       · (intro wx hS; have c1 := hS.2.1.cell; have c2 := hS.2.2.1.cell; have c3 := hS.2.2.2.cell; go_simp; with_reducible rfl)
       try simp only [Act.put, List.setIfInBounds_toArray, List.set_cons_zero, List.set_cons_succ])
    | (apply Flow.call
       · rfl
       · (intro wx hS; go_simp; constructor <;> with_reducible rfl)
       · (intro wx hS; first | exact compare_any _ _ _ _ _ _ _ | exact newer_any _ _ _ _ _ _ _)
       try simp only [Act.put, List.setIfInBounds_toArray, List.set_cons_zero, List.set_cons_succ]))
  refine Flow.done ?_
  intro w2 hS2
  go_wp2_with fail
  refine wp_region_flow (fun w' => Below w.heap.size w w' ∧ Blk w' b7 (keyObj 26 e s m) ∧ Blk w' b8 (keyObj 26 e' s' m') ∧ Blk w' b9 (keyObj 26 e2 s2 m2)) (by kernel_rfl) (by kernel_rfl) (by kernel_rfl)
    (fun _ _ h hb => ⟨thru h.1 hb, h.2.1.keep hb, h.2.2.1.keep hb, h.2.2.2.keep hb⟩) ⟨hS2.1.drew, hS2.2.1.draw, hS2.2.2.1.draw, hS2.2.2.2.draw⟩ ?_
  repeat (first
    | (apply Flow.idle
       · rfl
       try simp only [Act.put, List.setIfInBounds_toArray, List.set_cons_zero, List.set_cons_succ])
    | (apply Flow.value
       · rfl
       · (intro wx hS; have c1 := hS.2.1.cell; have c2 := hS.2.2.1.cell; have c3 := hS.2.2.2.cell; go_simp; with_reducible rfl)
       try simp only [Act.put, List.setIfInBounds_toArray, List.set_cons_zero, List.set_cons_succ])
    | (apply Flow.call
       · rfl
       · (intro wx hS; go_simp; constructor <;> with_reducible rfl)
       · (intro wx hS; first | exact compare_any _ _ _ _ _ _ _ | exact newer_any _ _ _ _ _ _ _)
       try simp only [Act.put, List.setIfInBounds_toArray, List.set_cons_zero, List.set_cons_succ]))
  refine Flow.done ?_
  intro w3 hS3
  go_wp2_with fail
  refine (right_any _ _ _ _).mono ?_
  rintro r w4 ⟨rfl, hb⟩
  have H1 := thru hS3.1 hb
  have H7 := hS3.2.1.keep hb
  have H8 := hS3.2.2.1.keep hb
  have H9 := hS3.2.2.2.keep hb
  rw [right_zero]
  clear hb hS3 hS2 HB K7 K8 K9
  obtain ⟨c70, c71, c72, -⟩ := H7.three
  obtain ⟨c80, c81, c82, -⟩ := H8.three
  go_wp2_with fail
  refine (compare_any _ _ _ _ _ _ _).mono ?_
  rintro r w5 ⟨rfl, hb⟩
  rw [hc12]
  have G1 := thru H1 hb
  go_wp2_with fail
  go_ret
  exact ⟨rfl, G1⟩

set_option maxHeartbeats 3200000 in
theorem line_B (e s m e' s' m' e2 s2 m2 : Int) (w : World) (hc12 : compareI e s m e' s' m' = 1) (hc21 : compareI e' s' m' e s m = -1) (hn12 : newerB e s e' s' = true) (he : (e == e') = false) :
    Calls Try.prog 4 #[.agg #[.int .u32 e, .int .u32 s, .int .i64 m], .agg #[.int .u32 e', .int .u32 s', .int .i64 m'], .agg #[.int .u32 e2, .int .u32 s2, .int .i64 m2]] w fun r w' => r = .returned (.bool true) ∧ Below w.heap.size w w' := by
  have hw1 : IntKind.i64.wrap (-1) = -1 := by decide
  have hw2 : IntKind.i64.wrap 1 = 1 := by decide
  have hw3 : IntKind.i64.wrap 0 = 0 := by decide
  go_enter Try.func4, Try.ntmps4
  go_wp2_with fail
  refine wp_region_flow_vars (fun w' => Below w.heap.size w w' ∧ Blk w' w.heap.size (keyObj 24 e s m) ∧ Blk w' (w.heap.size + 1) (keyObj 24 e' s' m') ∧ Blk w' (w.heap.size + 2) (keyObj 24 e2 s2 m2))
    [0, 1, 2, 3, 4, 5] [6, 7, 8] [9, 10, 11] (fun _ => keyObj 26 0 0 0) (by kernel_rfl) (by kernel_rfl) (by kernel_rfl) (by decide) (fun _ _ h hb => ⟨thru h.1 hb, h.2.1.keep hb, h.2.2.1.keep hb, h.2.2.2.keep hb⟩)
    ⟨(more (more (more (Below.refl _ _) _) _) _).drew, (((Blk.new _ _).old _).old _).draw, ((Blk.newAt _ (by simp)).old _).draw, (Blk.newAt _ (by simp)).draw⟩ ?_ (by decide) ?_
  · intro i hi a wx
    simp only [List.mem_cons, List.not_mem_nil, or_false] at hi
    rcases hi with rfl | rfl | rfl
    all_goals (refine ⟨_, rfl, ?_⟩; go_simp)
  refine flowN_sel _ _ (by decide) ?_
  simp only [sel, List.filterMap_cons, List.filterMap_nil, List.getElem?_toArray, List.getElem?_cons_succ, List.getElem?_cons_zero]
  repeat (first
    | (apply Flow.value
       · rfl
       · (intro wx hS; have c1 := hS.2.1.cell; have c2 := hS.2.2.1.cell; have c3 := hS.2.2.2.cell; go_simp; with_reducible rfl)
       try simp only [Act.put, List.setIfInBounds_toArray, List.set_cons_zero, List.set_cons_succ])
    | (apply Flow.call
       · rfl
       · (intro wx hS; go_simp; constructor <;> with_reducible rfl)
       · (intro wx hS; exact to_any _ _ _ _)
       try simp only [Act.put, List.setIfInBounds_toArray, List.set_cons_zero, List.set_cons_succ]))
  refine Flow.done ?_
  intro γ w1 hS hn hg
  obtain ⟨b7, g7⟩ := Option.ne_none_iff_exists'.1 (hg 6 (by simp))
  obtain ⟨b8, g8⟩ := Option.ne_none_iff_exists'.1 (hg 7 (by simp))
  obtain ⟨b9, g9⟩ := Option.ne_none_iff_exists'.1 (hg 8 (by simp))
  obtain ⟨k7, l7⟩ := hn.blk 6 (by simp) b7 g7
  obtain ⟨k8, l8⟩ := hn.blk 7 (by simp) b8 g8
  obtain ⟨k9, l9⟩ := hn.blk 8 (by simp) b9 g9
  have n78 := hn.apart 6 (by simp) 7 (by simp) (by decide) b7 b8 g7 g8
  have n79 := hn.apart 6 (by simp) 8 (by simp) (by decide) b7 b9 g7 g9
  have n89 := hn.apart 7 (by simp) 8 (by simp) (by decide) b8 b9 g8 g9
  simp only [World.size_alloc] at l7 l8 l9
  simp only [putNew, g7, g8, g9, dstOf, List.getElem?_toArray, List.getElem?_cons_succ, List.getElem?_cons_zero, Option.bind_some, Act.put, List.setIfInBounds_toArray, List.set_cons_zero, List.set_cons_succ]
  obtain ⟨c70, c71, c72, f70, f71, f72⟩ := k7.three
  obtain ⟨c80, c81, c82, f80, f81, f82⟩ := k8.three
  obtain ⟨c90, c91, c92, f90, f91, f92⟩ := k9.three
  refine wpOps_step rfl (by rfl) ?_
  go_simp
  refine wpOps_step rfl (by rfl) ?_
  go_simp
  refine wpOps_step rfl (by rfl) ?_
  go_simp
  refine wpOps_done ?_
  have K7 := ((((((((k7.set 0 (.int .u32 e)).set 1 (.int .u32 s)).set 2 (.int .i64 m)).setOther (p := ⟨b8, 0, none⟩) n78.symm (.int .u32 e')).setOther (p := ⟨b8, 1, none⟩) n78.symm (.int .u32 s')).setOther (p := ⟨b8, 2, none⟩) n78.symm (.int .i64 m')).setOther (p := ⟨b9, 0, none⟩) n79.symm (.int .u32 e2)).setOther (p := ⟨b9, 1, none⟩) n79.symm (.int .u32 s2)).setOther (p := ⟨b9, 2, none⟩) n79.symm (.int .i64 m2)
  have K8 := ((((((((k8.setOther (p := ⟨b7, 0, none⟩) n78 (.int .u32 e)).setOther (p := ⟨b7, 1, none⟩) n78 (.int .u32 s)).setOther (p := ⟨b7, 2, none⟩) n78 (.int .i64 m)).set 0 (.int .u32 e')).set 1 (.int .u32 s')).set 2 (.int .i64 m')).setOther (p := ⟨b9, 0, none⟩) n89.symm (.int .u32 e2)).setOther (p := ⟨b9, 1, none⟩) n89.symm (.int .u32 s2)).setOther (p := ⟨b9, 2, none⟩) n89.symm (.int .i64 m2)
  have K9 := ((((((((k9.setOther (p := ⟨b7, 0, none⟩) n79 (.int .u32 e)).setOther (p := ⟨b7, 1, none⟩) n79 (.int .u32 s)).setOther (p := ⟨b7, 2, none⟩) n79 (.int .i64 m)).setOther (p := ⟨b8, 0, none⟩) n89 (.int .u32 e')).setOther (p := ⟨b8, 1, none⟩) n89 (.int .u32 s')).setOther (p := ⟨b8, 2, none⟩) n89 (.int .i64 m')).set 0 (.int .u32 e2)).set 1 (.int .u32 s2)).set 2 (.int .i64 m2)
  have HB := ((((((((hS.1.setCell (p := ⟨b7, 0, none⟩) (by simp; omega) (.int .u32 e)).setCell (p := ⟨b7, 1, none⟩) (by simp; omega) (.int .u32 s)).setCell (p := ⟨b7, 2, none⟩) (by simp; omega) (.int .i64 m)).setCell (p := ⟨b8, 0, none⟩) (by simp; omega) (.int .u32 e')).setCell (p := ⟨b8, 1, none⟩) (by simp; omega) (.int .u32 s')).setCell (p := ⟨b8, 2, none⟩) (by simp; omega) (.int .i64 m')).setCell (p := ⟨b9, 0, none⟩) (by simp; omega) (.int .u32 e2)).setCell (p := ⟨b9, 1, none⟩) (by simp; omega) (.int .u32 s2)).setCell (p := ⟨b9, 2, none⟩) (by simp; omega) (.int .i64 m2)
  have K7 : Blk _ b7 (keyObj 26 e s m) := K7
  have K8 : Blk _ b8 (keyObj 26 e' s' m') := K8
  have K9 : Blk _ b9 (keyObj 26 e2 s2 m2) := K9
  clear c70 c71 c72 f70 f71 f72 c80 c81 c82 f80 f81 f82 c90 c91 c92 f90 f91 f92 k7 k8 k9 hS hn hg g7 g8 g9
  revert K7 K8 K9 HB
  generalize (((((((((w1.setCell ⟨b7, 0, none⟩ (.int .u32 e)).setCell ⟨b7, 1, none⟩ (.int .u32 s)).setCell ⟨b7, 2, none⟩ (.int .i64 m)).setCell ⟨b8, 0, none⟩ (.int .u32 e')).setCell ⟨b8, 1, none⟩ (.int .u32 s')).setCell ⟨b8, 2, none⟩ (.int .i64 m')).setCell ⟨b9, 0, none⟩ (.int .u32 e2)).setCell ⟨b9, 1, none⟩ (.int .u32 s2)).setCell ⟨b9, 2, none⟩ (.int .i64 m2)) = W
  intro HB K7 K8 K9
  clear n78 n79 n89 l7 l8 l9
  go_wp2_with fail
  refine wp_region_flow (fun w' => Below w.heap.size w w' ∧ Blk w' b7 (keyObj 26 e s m) ∧ Blk w' b8 (keyObj 26 e' s' m') ∧ Blk w' b9 (keyObj 26 e2 s2 m2)) (by kernel_rfl) (by kernel_rfl) (by kernel_rfl)
    (fun _ _ h hb => ⟨thru h.1 hb, h.2.1.keep hb, h.2.2.1.keep hb, h.2.2.2.keep hb⟩) ⟨HB.drew, K7.draw, K8.draw, K9.draw⟩ ?_
  repeat (first
    | (apply Flow.idle
       · rfl
       try simp only [Act.put, List.setIfInBounds_toArray, List.set_cons_zero, List.set_cons_succ])
    | (apply Flow.value
       · rfl
       · (intro wx hS; have c1 := hS.2.1.cell; have c2 := hS.2.2.1.cell; have c3 := hS.2.2.2.cell; go_simp; with_reducible rfl)
       try simp only [Act.put, List.setIfInBounds_toArray, List.set_cons_zero, List.set_cons_succ])
    | (apply Flow.call
       · rfl
       · (intro wx hS; go_simp; constructor <;> with_reducible rfl)
       · (intro wx hS; first | exact compare_any _ _ _ _ _ _ _ | exact newer_any _ _ _ _ _ _ _)
       try simp only [Act.put, List.setIfInBounds_toArray, List.set_cons_zero, List.set_cons_succ]))
  refine Flow.done ?_
  intro w2 hS2
  go_wp2_with fail
  refine wp_region_flow (fun w' => Below w.heap.size w w' ∧ Blk w' b7 (keyObj 26 e s m) ∧ Blk w' b8 (keyObj 26 e' s' m') ∧ Blk w' b9 (keyObj 26 e2 s2 m2)) (by kernel_rfl) (by kernel_rfl) (by kernel_rfl)
    (fun _ _ h hb => ⟨thru h.1 hb, h.2.1.keep hb, h.2.2.1.keep hb, h.2.2.2.keep hb⟩) ⟨hS2.1.drew, hS2.2.1.draw, hS2.2.2.1.draw, hS2.2.2.2.draw⟩ ?_
  repeat (first
    | (apply Flow.idle
       · rfl
       try simp only [Act.put, List.setIfInBounds_toArray, List.set_cons_zero, List.set_cons_succ])
    | (apply Flow.value
       · rfl
       · (intro wx hS; have c1 := hS.2.1.cell; have c2 := hS.2.2.1.cell; have c3 := hS.2.2.2.cell; go_simp; with_reducible rfl)
       try simp only [Act.put, List.setIfInBounds_toArray, List.set_cons_zero, List.set_cons_succ])
    | (apply Flow.call
       · rfl
       · (intro wx hS; go_simp; constructor <;> with_reducible rfl)
       · (intro wx hS; first | exact compare_any _ _ _ _ _ _ _ | exact newer_any _ _ _ _ _ _ _)
       try simp only [Act.put, List.setIfInBounds_toArray, List.set_cons_zero, List.set_cons_succ]))
  refine Flow.done ?_
  intro w3 hS3
  go_wp2_with fail
  refine (right_any _ _ _ _).mono ?_
  rintro r w4 ⟨rfl, hb⟩
  have H1 := thru hS3.1 hb
  have H7 := hS3.2.1.keep hb
  have H8 := hS3.2.2.1.keep hb
  have H9 := hS3.2.2.2.keep hb
  rw [right_zero]
  clear hb hS3 hS2 HB K7 K8 K9
  obtain ⟨c70, c71, c72, -⟩ := H7.three
  obtain ⟨c80, c81, c82, -⟩ := H8.three
  go_wp2_with fail
  refine (compare_any _ _ _ _ _ _ _).mono ?_
  rintro r w5 ⟨rfl, hb⟩
  rw [hc12]
  have G1 := thru H1 hb
  have G7 := H7.keep hb
  have G8 := H8.keep hb
  have G9 := H9.keep hb
  clear hb H1 H7 H8 H9 c70 c71 c72 c80 c81 c82
  obtain ⟨c70, c71, c72, -⟩ := G7.three
  obtain ⟨c80, c81, c82, -⟩ := G8.three
  obtain ⟨c90, c91, c92, -⟩ := G9.three
  by_cases hyz : compareI e' s' m' e2 s2 m2 < 0
  · go_wp2_with fail
    refine (compare_any _ _ _ _ _ _ _).mono ?_
    rintro r w6 ⟨rfl, hb⟩
    have F1 := thru G1 hb
    go_wp2_with fail
    go_ret
    exact ⟨rfl, F1⟩
  · have hxz : 0 ≤ compareI e s m e2 s2 m2 := compare_trans (by rw [hc12]; omega) (by omega)
    have hyz : 0 ≤ compareI e' s' m' e2 s2 m2 := by omega
    go_wp2_with fail
    refine (compare_any _ _ _ _ _ _ _).mono ?_
    rintro r w6 ⟨rfl, hb⟩
    have F1 := thru G1 hb
    have F7 := G7.keep hb
    have F9 := G9.keep hb
    clear hb G1 G7 G8 G9 c70 c71 c72 c80 c81 c82 c90 c91 c92
    obtain ⟨c70, c71, c72, -⟩ := F7.three
    obtain ⟨c90, c91, c92, -⟩ := F9.three
    go_wp2_with fail
    refine (compare_any _ _ _ _ _ _ _).mono ?_
    rintro r w7 ⟨rfl, hb⟩
    have F2 := thru F1 hb
    go_wp2_with fail
    go_ret
    exact ⟨rfl, F2⟩

set_option maxHeartbeats 3200000 in
theorem line_C (e s m s' m' e2 s2 m2 : Int) (w : World) (hc12 : compareI e s m e s' m' = -1) (hc21 : compareI e s' m' e s m = 1) (hn12 : newerB e s e s' = false) (he : (s == s') = false) :
    Calls Try.prog 4 #[.agg #[.int .u32 e, .int .u32 s, .int .i64 m], .agg #[.int .u32 e, .int .u32 s', .int .i64 m'], .agg #[.int .u32 e2, .int .u32 s2, .int .i64 m2]] w fun r w' => r = .returned (.bool true) ∧ Below w.heap.size w w' := by
  have hw1 : IntKind.i64.wrap (-1) = -1 := by decide
  have hw2 : IntKind.i64.wrap 1 = 1 := by decide
  have hw3 : IntKind.i64.wrap 0 = 0 := by decide
  go_enter Try.func4, Try.ntmps4
  go_wp2_with fail
  refine wp_region_flow_vars (fun w' => Below w.heap.size w w' ∧ Blk w' w.heap.size (keyObj 24 e s m) ∧ Blk w' (w.heap.size + 1) (keyObj 24 e s' m') ∧ Blk w' (w.heap.size + 2) (keyObj 24 e2 s2 m2))
    [0, 1, 2, 3, 4, 5] [6, 7, 8] [9, 10, 11] (fun _ => keyObj 26 0 0 0) (by kernel_rfl) (by kernel_rfl) (by kernel_rfl) (by decide) (fun _ _ h hb => ⟨thru h.1 hb, h.2.1.keep hb, h.2.2.1.keep hb, h.2.2.2.keep hb⟩)
    ⟨(more (more (more (Below.refl _ _) _) _) _).drew, (((Blk.new _ _).old _).old _).draw, ((Blk.newAt _ (by simp)).old _).draw, (Blk.newAt _ (by simp)).draw⟩ ?_ (by decide) ?_
  · intro i hi a wx
    simp only [List.mem_cons, List.not_mem_nil, or_false] at hi
    rcases hi with rfl | rfl | rfl
    all_goals (refine ⟨_, rfl, ?_⟩; go_simp)
  refine flowN_sel _ _ (by decide) ?_
  simp only [sel, List.filterMap_cons, List.filterMap_nil, List.getElem?_toArray, List.getElem?_cons_succ, List.getElem?_cons_zero]
  repeat (first
    | (apply Flow.value
       · rfl
       · (intro wx hS; have c1 := hS.2.1.cell; have c2 := hS.2.2.1.cell; have c3 := hS.2.2.2.cell; go_simp; with_reducible rfl)
       try simp only [Act.put, List.setIfInBounds_toArray, List.set_cons_zero, List.set_cons_succ])
    | (apply Flow.call
       · rfl
       · (intro wx hS; go_simp; constructor <;> with_reducible rfl)
       · (intro wx hS; exact to_any _ _ _ _)
       try simp only [Act.put, List.setIfInBounds_toArray, List.set_cons_zero, List.set_cons_succ]))
  refine Flow.done ?_
  intro γ w1 hS hn hg
  obtain ⟨b7, g7⟩ := Option.ne_none_iff_exists'.1 (hg 6 (by simp))
  obtain ⟨b8, g8⟩ := Option.ne_none_iff_exists'.1 (hg 7 (by simp))
  obtain ⟨b9, g9⟩ := Option.ne_none_iff_exists'.1 (hg 8 (by simp))
  obtain ⟨k7, l7⟩ := hn.blk 6 (by simp) b7 g7
  obtain ⟨k8, l8⟩ := hn.blk 7 (by simp) b8 g8
  obtain ⟨k9, l9⟩ := hn.blk 8 (by simp) b9 g9
  have n78 := hn.apart 6 (by simp) 7 (by simp) (by decide) b7 b8 g7 g8
  have n79 := hn.apart 6 (by simp) 8 (by simp) (by decide) b7 b9 g7 g9
  have n89 := hn.apart 7 (by simp) 8 (by simp) (by decide) b8 b9 g8 g9
  simp only [World.size_alloc] at l7 l8 l9
  simp only [putNew, g7, g8, g9, dstOf, List.getElem?_toArray, List.getElem?_cons_succ, List.getElem?_cons_zero, Option.bind_some, Act.put, List.setIfInBounds_toArray, List.set_cons_zero, List.set_cons_succ]
  obtain ⟨c70, c71, c72, f70, f71, f72⟩ := k7.three
  obtain ⟨c80, c81, c82, f80, f81, f82⟩ := k8.three
  obtain ⟨c90, c91, c92, f90, f91, f92⟩ := k9.three
  refine wpOps_step rfl (by rfl) ?_
  go_simp
  refine wpOps_step rfl (by rfl) ?_
  go_simp
  refine wpOps_step rfl (by rfl) ?_
  go_simp
  refine wpOps_done ?_
  have K7 := ((((((((k7.set 0 (.int .u32 e)).set 1 (.int .u32 s)).set 2 (.int .i64 m)).setOther (p := ⟨b8, 0, none⟩) n78.symm (.int .u32 e)).setOther (p := ⟨b8, 1, none⟩) n78.symm (.int .u32 s')).setOther (p := ⟨b8, 2, none⟩) n78.symm (.int .i64 m')).setOther (p := ⟨b9, 0, none⟩) n79.symm (.int .u32 e2)).setOther (p := ⟨b9, 1, none⟩) n79.symm (.int .u32 s2)).setOther (p := ⟨b9, 2, none⟩) n79.symm (.int .i64 m2)
  have K8 := ((((((((k8.setOther (p := ⟨b7, 0, none⟩) n78 (.int .u32 e)).setOther (p := ⟨b7, 1, none⟩) n78 (.int .u32 s)).setOther (p := ⟨b7, 2, none⟩) n78 (.int .i64 m)).set 0 (.int .u32 e)).set 1 (.int .u32 s')).set 2 (.int .i64 m')).setOther (p := ⟨b9, 0, none⟩) n89.symm (.int .u32 e2)).setOther (p := ⟨b9, 1, none⟩) n89.symm (.int .u32 s2)).setOther (p := ⟨b9, 2, none⟩) n89.symm (.int .i64 m2)
  have K9 := ((((((((k9.setOther (p := ⟨b7, 0, none⟩) n79 (.int .u32 e)).setOther (p := ⟨b7, 1, none⟩) n79 (.int .u32 s)).setOther (p := ⟨b7, 2, none⟩) n79 (.int .i64 m)).setOther (p := ⟨b8, 0, none⟩) n89 (.int .u32 e)).setOther (p := ⟨b8, 1, none⟩) n89 (.int .u32 s')).setOther (p := ⟨b8, 2, none⟩) n89 (.int .i64 m')).set 0 (.int .u32 e2)).set 1 (.int .u32 s2)).set 2 (.int .i64 m2)
  have HB := ((((((((hS.1.setCell (p := ⟨b7, 0, none⟩) (by simp; omega) (.int .u32 e)).setCell (p := ⟨b7, 1, none⟩) (by simp; omega) (.int .u32 s)).setCell (p := ⟨b7, 2, none⟩) (by simp; omega) (.int .i64 m)).setCell (p := ⟨b8, 0, none⟩) (by simp; omega) (.int .u32 e)).setCell (p := ⟨b8, 1, none⟩) (by simp; omega) (.int .u32 s')).setCell (p := ⟨b8, 2, none⟩) (by simp; omega) (.int .i64 m')).setCell (p := ⟨b9, 0, none⟩) (by simp; omega) (.int .u32 e2)).setCell (p := ⟨b9, 1, none⟩) (by simp; omega) (.int .u32 s2)).setCell (p := ⟨b9, 2, none⟩) (by simp; omega) (.int .i64 m2)
  have K7 : Blk _ b7 (keyObj 26 e s m) := K7
  have K8 : Blk _ b8 (keyObj 26 e s' m') := K8
  have K9 : Blk _ b9 (keyObj 26 e2 s2 m2) := K9
  clear c70 c71 c72 f70 f71 f72 c80 c81 c82 f80 f81 f82 c90 c91 c92 f90 f91 f92 k7 k8 k9 hS hn hg g7 g8 g9
  revert K7 K8 K9 HB
  generalize (((((((((w1.setCell ⟨b7, 0, none⟩ (.int .u32 e)).setCell ⟨b7, 1, none⟩ (.int .u32 s)).setCell ⟨b7, 2, none⟩ (.int .i64 m)).setCell ⟨b8, 0, none⟩ (.int .u32 e)).setCell ⟨b8, 1, none⟩ (.int .u32 s')).setCell ⟨b8, 2, none⟩ (.int .i64 m')).setCell ⟨b9, 0, none⟩ (.int .u32 e2)).setCell ⟨b9, 1, none⟩ (.int .u32 s2)).setCell ⟨b9, 2, none⟩ (.int .i64 m2)) = W
  intro HB K7 K8 K9
  clear n78 n79 n89 l7 l8 l9
  go_wp2_with fail
  refine wp_region_flow (fun w' => Below w.heap.size w w' ∧ Blk w' b7 (keyObj 26 e s m) ∧ Blk w' b8 (keyObj 26 e s' m') ∧ Blk w' b9 (keyObj 26 e2 s2 m2)) (by kernel_rfl) (by kernel_rfl) (by kernel_rfl)
    (fun _ _ h hb => ⟨thru h.1 hb, h.2.1.keep hb, h.2.2.1.keep hb, h.2.2.2.keep hb⟩) ⟨HB.drew, K7.draw, K8.draw, K9.draw⟩ ?_
  repeat (first
    | (apply Flow.idle
       · rfl
       try simp only [Act.put, List.setIfInBounds_toArray, List.set_cons_zero, List.set_cons_succ])
    | (apply Flow.value
       · rfl
       · (intro wx hS; have c1 := hS.2.1.cell; have c2 := hS.2.2.1.cell; have c3 := hS.2.2.2.cell; go_simp; with_reducible rfl)
       try simp only [Act.put, List.setIfInBounds_toArray, List.set_cons_zero, List.set_cons_succ])
    | (apply Flow.call
       · rfl
       · (intro wx hS; go_simp; constructor <;> with_reducible rfl)
       · (intro wx hS; first | exact compare_any _ _ _ _ _ _ _ | exact newer_any _ _ _ _ _ _ _)
       try simp only [Act.put, List.setIfInBounds_toArray, List.set_cons_zero, List.set_cons_succ]))
  refine Flow.done ?_
  intro w2 hS2
  go_wp2_with fail
  refine wp_region_flow (fun w' => Below w.heap.size w w' ∧ Blk w' b7 (keyObj 26 e s m) ∧ Blk w' b8 (keyObj 26 e s' m') ∧ Blk w' b9 (keyObj 26 e2 s2 m2)) (by kernel_rfl) (by kernel_rfl) (by kernel_rfl)
    (fun _ _ h hb => ⟨thru h.1 hb, h.2.1.keep hb, h.2.2.1.keep hb, h.2.2.2.keep hb⟩) ⟨hS2.1.drew, hS2.2.1.draw, hS2.2.2.1.draw, hS2.2.2.2.draw⟩ ?_
  repeat (first
    | (apply Flow.idle
       · rfl
       try simp only [Act.put, List.setIfInBounds_toArray, List.set_cons_zero, List.set_cons_succ])
    | (apply Flow.value
       · rfl
       · (intro wx hS; have c1 := hS.2.1.cell; have c2 := hS.2.2.1.cell; have c3 := hS.2.2.2.cell; go_simp; with_reducible rfl)
       try simp only [Act.put, List.setIfInBounds_toArray, List.set_cons_zero, List.set_cons_succ])
    | (apply Flow.call
       · rfl
       · (intro wx hS; go_simp; constructor <;> with_reducible rfl)
       · (intro wx hS; first | exact compare_any _ _ _ _ _ _ _ | exact newer_any _ _ _ _ _ _ _)
       try simp only [Act.put, List.setIfInBounds_toArray, List.set_cons_zero, List.set_cons_succ]))
  refine Flow.done ?_
  intro w3 hS3
  go_wp2_with fail
  refine (right_any _ _ _ _).mono ?_
  rintro r w4 ⟨rfl, hb⟩
  have H1 := thru hS3.1 hb
  have H7 := hS3.2.1.keep hb
  have H8 := hS3.2.2.1.keep hb
  have H9 := hS3.2.2.2.keep hb
  rw [right_zero]
  clear hb hS3 hS2 HB K7 K8 K9
  obtain ⟨c70, c71, c72, -⟩ := H7.three
  obtain ⟨c80, c81, c82, -⟩ := H8.three
  go_wp2_with fail
  refine (compare_any _ _ _ _ _ _ _).mono ?_
  rintro r w5 ⟨rfl, hb⟩
  rw [hc12]
  have G1 := thru H1 hb
  go_wp2_with fail
  go_ret
  exact ⟨rfl, G1⟩

set_option maxHeartbeats 3200000 in
theorem line_D (e s m s' m' e2 s2 m2 : Int) (w : World) (hc12 : compareI e s m e s' m' = 1) (hc21 : compareI e s' m' e s m = -1) (hn12 : newerB e s e s' = true) (he : (s == s') = false) :
    Calls Try.prog 4 #[.agg #[.int .u32 e, .int .u32 s, .int .i64 m], .agg #[.int .u32 e, .int .u32 s', .int .i64 m'], .agg #[.int .u32 e2, .int .u32 s2, .int .i64 m2]] w fun r w' => r = .returned (.bool true) ∧ Below w.heap.size w w' := by
  have hw1 : IntKind.i64.wrap (-1) = -1 := by decide
  have hw2 : IntKind.i64.wrap 1 = 1 := by decide
  have hw3 : IntKind.i64.wrap 0 = 0 := by decide
  go_enter Try.func4, Try.ntmps4
  go_wp2_with fail
  refine wp_region_flow_vars (fun w' => Below w.heap.size w w' ∧ Blk w' w.heap.size (keyObj 24 e s m) ∧ Blk w' (w.heap.size + 1) (keyObj 24 e s' m') ∧ Blk w' (w.heap.size + 2) (keyObj 24 e2 s2 m2))
    [0, 1, 2, 3, 4, 5] [6, 7, 8] [9, 10, 11] (fun _ => keyObj 26 0 0 0) (by kernel_rfl) (by kernel_rfl) (by kernel_rfl) (by decide) (fun _ _ h hb => ⟨thru h.1 hb, h.2.1.keep hb, h.2.2.1.keep hb, h.2.2.2.keep hb⟩)
    ⟨(more (more (more (Below.refl _ _) _) _) _).drew, (((Blk.new _ _).old _).old _).draw, ((Blk.newAt _ (by simp)).old _).draw, (Blk.newAt _ (by simp)).draw⟩ ?_ (by decide) ?_
  · intro i hi a wx
    simp only [List.mem_cons, List.not_mem_nil, or_false] at hi
    rcases hi with rfl | rfl | rfl
    all_goals (refine ⟨_, rfl, ?_⟩; go_simp)
  refine flowN_sel _ _ (by decide) ?_
  simp only [sel, List.filterMap_cons, List.filterMap_nil, List.getElem?_toArray, List.getElem?_cons_succ, List.getElem?_cons_zero]
  repeat (first
    | (apply Flow.value
       · rfl
       · (intro wx hS; have c1 := hS.2.1.cell; have c2 := hS.2.2.1.cell; have c3 := hS.2.2.2.cell; go_simp; with_reducible rfl)
       try simp only [Act.put, List.setIfInBounds_toArray, List.set_cons_zero, List.set_cons_succ])
    | (apply Flow.call
       · rfl
       · (intro wx hS; go_simp; constructor <;> with_reducible rfl)
       · (intro wx hS; exact to_any _ _ _ _)
       try simp only [Act.put, List.setIfInBounds_toArray, List.set_cons_zero, List.set_cons_succ]))
  refine Flow.done ?_
  intro γ w1 hS hn hg
  obtain ⟨b7, g7⟩ := Option.ne_none_iff_exists'.1 (hg 6 (by simp))
  obtain ⟨b8, g8⟩ := Option.ne_none_iff_exists'.1 (hg 7 (by simp))
  obtain ⟨b9, g9⟩ := Option.ne_none_iff_exists'.1 (hg 8 (by simp))
  obtain ⟨k7, l7⟩ := hn.blk 6 (by simp) b7 g7
  obtain ⟨k8, l8⟩ := hn.blk 7 (by simp) b8 g8
  obtain ⟨k9, l9⟩ := hn.blk 8 (by simp) b9 g9
  have n78 := hn.apart 6 (by simp) 7 (by simp) (by decide) b7 b8 g7 g8
  have n79 := hn.apart 6 (by simp) 8 (by simp) (by decide) b7 b9 g7 g9
  have n89 := hn.apart 7 (by simp) 8 (by simp) (by decide) b8 b9 g8 g9
  simp only [World.size_alloc] at l7 l8 l9
  simp only [putNew, g7, g8, g9, dstOf, List.getElem?_toArray, List.getElem?_cons_succ, List.getElem?_cons_zero, Option.bind_some, Act.put, List.setIfInBounds_toArray, List.set_cons_zero, List.set_cons_succ]
  obtain ⟨c70, c71, c72, f70, f71, f72⟩ := k7.three
  obtain ⟨c80, c81, c82, f80, f81, f82⟩ := k8.three
  obtain ⟨c90, c91, c92, f90, f91, f92⟩ := k9.three
  refine wpOps_step rfl (by rfl) ?_
  go_simp
  refine wpOps_step rfl (by rfl) ?_
  go_simp
  refine wpOps_step rfl (by rfl) ?_
  go_simp
  refine wpOps_done ?_
  have K7 := ((((((((k7.set 0 (.int .u32 e)).set 1 (.int .u32 s)).set 2 (.int .i64 m)).setOther (p := ⟨b8, 0, none⟩) n78.symm (.int .u32 e)).setOther (p := ⟨b8, 1, none⟩) n78.symm (.int .u32 s')).setOther (p := ⟨b8, 2, none⟩) n78.symm (.int .i64 m')).setOther (p := ⟨b9, 0, none⟩) n79.symm (.int .u32 e2)).setOther (p := ⟨b9, 1, none⟩) n79.symm (.int .u32 s2)).setOther (p := ⟨b9, 2, none⟩) n79.symm (.int .i64 m2)
  have K8 := ((((((((k8.setOther (p := ⟨b7, 0, none⟩) n78 (.int .u32 e)).setOther (p := ⟨b7, 1, none⟩) n78 (.int .u32 s)).setOther (p := ⟨b7, 2, none⟩) n78 (.int .i64 m)).set 0 (.int .u32 e)).set 1 (.int .u32 s')).set 2 (.int .i64 m')).setOther (p := ⟨b9, 0, none⟩) n89.symm (.int .u32 e2)).setOther (p := ⟨b9, 1, none⟩) n89.symm (.int .u32 s2)).setOther (p := ⟨b9, 2, none⟩) n89.symm (.int .i64 m2)
  have K9 := ((((((((k9.setOther (p := ⟨b7, 0, none⟩) n79 (.int .u32 e)).setOther (p := ⟨b7, 1, none⟩) n79 (.int .u32 s)).setOther (p := ⟨b7, 2, none⟩) n79 (.int .i64 m)).setOther (p := ⟨b8, 0, none⟩) n89 (.int .u32 e)).setOther (p := ⟨b8, 1, none⟩) n89 (.int .u32 s')).setOther (p := ⟨b8, 2, none⟩) n89 (.int .i64 m')).set 0 (.int .u32 e2)).set 1 (.int .u32 s2)).set 2 (.int .i64 m2)
  have HB := ((((((((hS.1.setCell (p := ⟨b7, 0, none⟩) (by simp; omega) (.int .u32 e)).setCell (p := ⟨b7, 1, none⟩) (by simp; omega) (.int .u32 s)).setCell (p := ⟨b7, 2, none⟩) (by simp; omega) (.int .i64 m)).setCell (p := ⟨b8, 0, none⟩) (by simp; omega) (.int .u32 e)).setCell (p := ⟨b8, 1, none⟩) (by simp; omega) (.int .u32 s')).setCell (p := ⟨b8, 2, none⟩) (by simp; omega) (.int .i64 m')).setCell (p := ⟨b9, 0, none⟩) (by simp; omega) (.int .u32 e2)).setCell (p := ⟨b9, 1, none⟩) (by simp; omega) (.int .u32 s2)).setCell (p := ⟨b9, 2, none⟩) (by simp; omega) (.int .i64 m2)
  have K7 : Blk _ b7 (keyObj 26 e s m) := K7
  have K8 : Blk _ b8 (keyObj 26 e s' m') := K8
  have K9 : Blk _ b9 (keyObj 26 e2 s2 m2) := K9
  clear c70 c71 c72 f70 f71 f72 c80 c81 c82 f80 f81 f82 c90 c91 c92 f90 f91 f92 k7 k8 k9 hS hn hg g7 g8 g9
  revert K7 K8 K9 HB
  generalize (((((((((w1.setCell ⟨b7, 0, none⟩ (.int .u32 e)).setCell ⟨b7, 1, none⟩ (.int .u32 s)).setCell ⟨b7, 2, none⟩ (.int .i64 m)).setCell ⟨b8, 0, none⟩ (.int .u32 e)).setCell ⟨b8, 1, none⟩ (.int .u32 s')).setCell ⟨b8, 2, none⟩ (.int .i64 m')).setCell ⟨b9, 0, none⟩ (.int .u32 e2)).setCell ⟨b9, 1, none⟩ (.int .u32 s2)).setCell ⟨b9, 2, none⟩ (.int .i64 m2)) = W
  intro HB K7 K8 K9
  clear n78 n79 n89 l7 l8 l9
  go_wp2_with fail
  refine wp_region_flow (fun w' => Below w.heap.size w w' ∧ Blk w' b7 (keyObj 26 e s m) ∧ Blk w' b8 (keyObj 26 e s' m') ∧ Blk w' b9 (keyObj 26 e2 s2 m2)) (by kernel_rfl) (by kernel_rfl) (by kernel_rfl)
    (fun _ _ h hb => ⟨thru h.1 hb, h.2.1.keep hb, h.2.2.1.keep hb, h.2.2.2.keep hb⟩) ⟨HB.drew, K7.draw, K8.draw, K9.draw⟩ ?_
  repeat (first
    | (apply Flow.idle
       · rfl
       try simp only [Act.put, List.setIfInBounds_toArray, List.set_cons_zero, List.set_cons_succ])
    | (apply Flow.value
       · rfl
       · (intro wx hS; have c1 := hS.2.1.cell; have c2 := hS.2.2.1.cell; have c3 := hS.2.2.2.cell; go_simp; with_reducible rfl)
       try simp only [Act.put, List.setIfInBounds_toArray, List.set_cons_zero, List.set_cons_succ])
    | (apply Flow.call
       · rfl
       · (intro wx hS; go_simp; constructor <;> with_reducible rfl)
       · (intro wx hS; first | exact compare_any _ _ _ _ _ _ _ | exact newer_any _ _ _ _ _ _ _)
       try simp only [Act.put, List.setIfInBounds_toArray, List.set_cons_zero, List.set_cons_succ]))
  refine Flow.done ?_
  intro w2 hS2
  go_wp2_with fail
  refine wp_region_flow (fun w' => Below w.heap.size w w' ∧ Blk w' b7 (keyObj 26 e s m) ∧ Blk w' b8 (keyObj 26 e s' m') ∧ Blk w' b9 (keyObj 26 e2 s2 m2)) (by kernel_rfl) (by kernel_rfl) (by kernel_rfl)
    (fun _ _ h hb => ⟨thru h.1 hb, h.2.1.keep hb, h.2.2.1.keep hb, h.2.2.2.keep hb⟩) ⟨hS2.1.drew, hS2.2.1.draw, hS2.2.2.1.draw, hS2.2.2.2.draw⟩ ?_
  repeat (first
    | (apply Flow.idle
       · rfl
       try simp only [Act.put, List.setIfInBounds_toArray, List.set_cons_zero, List.set_cons_succ])
    | (apply Flow.value
       · rfl
       · (intro wx hS; have c1 := hS.2.1.cell; have c2 := hS.2.2.1.cell; have c3 := hS.2.2.2.cell; go_simp; with_reducible rfl)
       try simp only [Act.put, List.setIfInBounds_toArray, List.set_cons_zero, List.set_cons_succ])
    | (apply Flow.call
       · rfl
       · (intro wx hS; go_simp; constructor <;> with_reducible rfl)
       · (intro wx hS; first | exact compare_any _ _ _ _ _ _ _ | exact newer_any _ _ _ _ _ _ _)
       try simp only [Act.put, List.setIfInBounds_toArray, List.set_cons_zero, List.set_cons_succ]))
  refine Flow.done ?_
  intro w3 hS3
  go_wp2_with fail
  refine (right_any _ _ _ _).mono ?_
  rintro r w4 ⟨rfl, hb⟩
  have H1 := thru hS3.1 hb
  have H7 := hS3.2.1.keep hb
  have H8 := hS3.2.2.1.keep hb
  have H9 := hS3.2.2.2.keep hb
  rw [right_zero]
  clear hb hS3 hS2 HB K7 K8 K9
  obtain ⟨c70, c71, c72, -⟩ := H7.three
  obtain ⟨c80, c81, c82, -⟩ := H8.three
  go_wp2_with fail
  refine (compare_any _ _ _ _ _ _ _).mono ?_
  rintro r w5 ⟨rfl, hb⟩
  rw [hc12]
  have G1 := thru H1 hb
  have G7 := H7.keep hb
  have G8 := H8.keep hb
  have G9 := H9.keep hb
  clear hb H1 H7 H8 H9 c70 c71 c72 c80 c81 c82
  obtain ⟨c70, c71, c72, -⟩ := G7.three
  obtain ⟨c80, c81, c82, -⟩ := G8.three
  obtain ⟨c90, c91, c92, -⟩ := G9.three
  by_cases hyz : compareI e s' m' e2 s2 m2 < 0
  · go_wp2_with fail
    refine (compare_any _ _ _ _ _ _ _).mono ?_
    rintro r w6 ⟨rfl, hb⟩
    have F1 := thru G1 hb
    go_wp2_with fail
    go_ret
    exact ⟨rfl, F1⟩
  · have hxz : 0 ≤ compareI e s m e2 s2 m2 := compare_trans (by rw [hc12]; omega) (by omega)
    have hyz : 0 ≤ compareI e s' m' e2 s2 m2 := by omega
    go_wp2_with fail
    refine (compare_any _ _ _ _ _ _ _).mono ?_
    rintro r w6 ⟨rfl, hb⟩
    have F1 := thru G1 hb
    have F7 := G7.keep hb
    have F9 := G9.keep hb
    clear hb G1 G7 G8 G9 c70 c71 c72 c80 c81 c82 c90 c91 c92
    obtain ⟨c70, c71, c72, -⟩ := F7.three
    obtain ⟨c90, c91, c92, -⟩ := F9.three
    go_wp2_with fail
    refine (compare_any _ _ _ _ _ _ _).mono ?_
    rintro r w7 ⟨rfl, hb⟩
    have F2 := thru F1 hb
    go_wp2_with fail
    go_ret
    exact ⟨rfl, F2⟩

set_option maxHeartbeats 3200000 in
theorem line_E (e s m m' e2 s2 m2 : Int) (w : World) (hc12 : compareI e s m e s m' = 1) (hc21 : compareI e s m' e s m = -1) (hn12 : newerB e s e s = false) (he : (m == m') = false) (hm : m < m') :
    Calls Try.prog 4 #[.agg #[.int .u32 e, .int .u32 s, .int .i64 m], .agg #[.int .u32 e, .int .u32 s, .int .i64 m'], .agg #[.int .u32 e2, .int .u32 s2, .int .i64 m2]] w fun r w' => r = .returned (.bool true) ∧ Below w.heap.size w w' := by
  have hw1 : IntKind.i64.wrap (-1) = -1 := by decide
  have hw2 : IntKind.i64.wrap 1 = 1 := by decide
  have hw3 : IntKind.i64.wrap 0 = 0 := by decide
  go_enter Try.func4, Try.ntmps4
  go_wp2_with fail
  refine wp_region_flow_vars (fun w' => Below w.heap.size w w' ∧ Blk w' w.heap.size (keyObj 24 e s m) ∧ Blk w' (w.heap.size + 1) (keyObj 24 e s m') ∧ Blk w' (w.heap.size + 2) (keyObj 24 e2 s2 m2))
    [0, 1, 2, 3, 4, 5] [6, 7, 8] [9, 10, 11] (fun _ => keyObj 26 0 0 0) (by kernel_rfl) (by kernel_rfl) (by kernel_rfl) (by decide) (fun _ _ h hb => ⟨thru h.1 hb, h.2.1.keep hb, h.2.2.1.keep hb, h.2.2.2.keep hb⟩)
    ⟨(more (more (more (Below.refl _ _) _) _) _).drew, (((Blk.new _ _).old _).old _).draw, ((Blk.newAt _ (by simp)).old _).draw, (Blk.newAt _ (by simp)).draw⟩ ?_ (by decide) ?_
  · intro i hi a wx
    simp only [List.mem_cons, List.not_mem_nil, or_false] at hi
    rcases hi with rfl | rfl | rfl
    all_goals (refine ⟨_, rfl, ?_⟩; go_simp)
  refine flowN_sel _ _ (by decide) ?_
  simp only [sel, List.filterMap_cons, List.filterMap_nil, List.getElem?_toArray, List.getElem?_cons_succ, List.getElem?_cons_zero]
  repeat (first
    | (apply Flow.value
       · rfl
       · (intro wx hS; have c1 := hS.2.1.cell; have c2 := hS.2.2.1.cell; have c3 := hS.2.2.2.cell; go_simp; with_reducible rfl)
       try simp only [Act.put, List.setIfInBounds_toArray, List.set_cons_zero, List.set_cons_succ])
    | (apply Flow.call
       · rfl
       · (intro wx hS; go_simp; constructor <;> with_reducible rfl)
       · (intro wx hS; exact to_any _ _ _ _)
       try simp only [Act.put, List.setIfInBounds_toArray, List.set_cons_zero, List.set_cons_succ]))
  refine Flow.done ?_
  intro γ w1 hS hn hg
  obtain ⟨b7, g7⟩ := Option.ne_none_iff_exists'.1 (hg 6 (by simp))
  obtain ⟨b8, g8⟩ := Option.ne_none_iff_exists'.1 (hg 7 (by simp))
  obtain ⟨b9, g9⟩ := Option.ne_none_iff_exists'.1 (hg 8 (by simp))
  obtain ⟨k7, l7⟩ := hn.blk 6 (by simp) b7 g7
  obtain ⟨k8, l8⟩ := hn.blk 7 (by simp) b8 g8
  obtain ⟨k9, l9⟩ := hn.blk 8 (by simp) b9 g9
  have n78 := hn.apart 6 (by simp) 7 (by simp) (by decide) b7 b8 g7 g8
  have n79 := hn.apart 6 (by simp) 8 (by simp) (by decide) b7 b9 g7 g9
  have n89 := hn.apart 7 (by simp) 8 (by simp) (by decide) b8 b9 g8 g9
  simp only [World.size_alloc] at l7 l8 l9
  simp only [putNew, g7, g8, g9, dstOf, List.getElem?_toArray, List.getElem?_cons_succ, List.getElem?_cons_zero, Option.bind_some, Act.put, List.setIfInBounds_toArray, List.set_cons_zero, List.set_cons_succ]
  obtain ⟨c70, c71, c72, f70, f71, f72⟩ := k7.three
  obtain ⟨c80, c81, c82, f80, f81, f82⟩ := k8.three
  obtain ⟨c90, c91, c92, f90, f91, f92⟩ := k9.three
  refine wpOps_step rfl (by rfl) ?_
  go_simp
  refine wpOps_step rfl (by rfl) ?_
  go_simp
  refine wpOps_step rfl (by rfl) ?_
  go_simp
  refine wpOps_done ?_
  have K7 := ((((((((k7.set 0 (.int .u32 e)).set 1 (.int .u32 s)).set 2 (.int .i64 m)).setOther (p := ⟨b8, 0, none⟩) n78.symm (.int .u32 e)).setOther (p := ⟨b8, 1, none⟩) n78.symm (.int .u32 s)).setOther (p := ⟨b8, 2, none⟩) n78.symm (.int .i64 m')).setOther (p := ⟨b9, 0, none⟩) n79.symm (.int .u32 e2)).setOther (p := ⟨b9, 1, none⟩) n79.symm (.int .u32 s2)).setOther (p := ⟨b9, 2, none⟩) n79.symm (.int .i64 m2)
  have K8 := ((((((((k8.setOther (p := ⟨b7, 0, none⟩) n78 (.int .u32 e)).setOther (p := ⟨b7, 1, none⟩) n78 (.int .u32 s)).setOther (p := ⟨b7, 2, none⟩) n78 (.int .i64 m)).set 0 (.int .u32 e)).set 1 (.int .u32 s)).set 2 (.int .i64 m')).setOther (p := ⟨b9, 0, none⟩) n89.symm (.int .u32 e2)).setOther (p := ⟨b9, 1, none⟩) n89.symm (.int .u32 s2)).setOther (p := ⟨b9, 2, none⟩) n89.symm (.int .i64 m2)
  have K9 := ((((((((k9.setOther (p := ⟨b7, 0, none⟩) n79 (.int .u32 e)).setOther (p := ⟨b7, 1, none⟩) n79 (.int .u32 s)).setOther (p := ⟨b7, 2, none⟩) n79 (.int .i64 m)).setOther (p := ⟨b8, 0, none⟩) n89 (.int .u32 e)).setOther (p := ⟨b8, 1, none⟩) n89 (.int .u32 s)).setOther (p := ⟨b8, 2, none⟩) n89 (.int .i64 m')).set 0 (.int .u32 e2)).set 1 (.int .u32 s2)).set 2 (.int .i64 m2)
  have HB := ((((((((hS.1.setCell (p := ⟨b7, 0, none⟩) (by simp; omega) (.int .u32 e)).setCell (p := ⟨b7, 1, none⟩) (by simp; omega) (.int .u32 s)).setCell (p := ⟨b7, 2, none⟩) (by simp; omega) (.int .i64 m)).setCell (p := ⟨b8, 0, none⟩) (by simp; omega) (.int .u32 e)).setCell (p := ⟨b8, 1, none⟩) (by simp; omega) (.int .u32 s)).setCell (p := ⟨b8, 2, none⟩) (by simp; omega) (.int .i64 m')).setCell (p := ⟨b9, 0, none⟩) (by simp; omega) (.int .u32 e2)).setCell (p := ⟨b9, 1, none⟩) (by simp; omega) (.int .u32 s2)).setCell (p := ⟨b9, 2, none⟩) (by simp; omega) (.int .i64 m2)
  have K7 : Blk _ b7 (keyObj 26 e s m) := K7
  have K8 : Blk _ b8 (keyObj 26 e s m') := K8
  have K9 : Blk _ b9 (keyObj 26 e2 s2 m2) := K9
  clear c70 c71 c72 f70 f71 f72 c80 c81 c82 f80 f81 f82 c90 c91 c92 f90 f91 f92 k7 k8 k9 hS hn hg g7 g8 g9
  revert K7 K8 K9 HB
  generalize (((((((((w1.setCell ⟨b7, 0, none⟩ (.int .u32 e)).setCell ⟨b7, 1, none⟩ (.int .u32 s)).setCell ⟨b7, 2, none⟩ (.int .i64 m)).setCell ⟨b8, 0, none⟩ (.int .u32 e)).setCell ⟨b8, 1, none⟩ (.int .u32 s)).setCell ⟨b8, 2, none⟩ (.int .i64 m')).setCell ⟨b9, 0, none⟩ (.int .u32 e2)).setCell ⟨b9, 1, none⟩ (.int .u32 s2)).setCell ⟨b9, 2, none⟩ (.int .i64 m2)) = W
  intro HB K7 K8 K9
  clear n78 n79 n89 l7 l8 l9
  go_wp2_with fail
  refine wp_region_flow (fun w' => Below w.heap.size w w' ∧ Blk w' b7 (keyObj 26 e s m) ∧ Blk w' b8 (keyObj 26 e s m') ∧ Blk w' b9 (keyObj 26 e2 s2 m2)) (by kernel_rfl) (by kernel_rfl) (by kernel_rfl)
    (fun _ _ h hb => ⟨thru h.1 hb, h.2.1.keep hb, h.2.2.1.keep hb, h.2.2.2.keep hb⟩) ⟨HB.drew, K7.draw, K8.draw, K9.draw⟩ ?_
  repeat (first
    | (apply Flow.idle
       · rfl
       try simp only [Act.put, List.setIfInBounds_toArray, List.set_cons_zero, List.set_cons_succ])
    | (apply Flow.value
       · rfl
       · (intro wx hS; have c1 := hS.2.1.cell; have c2 := hS.2.2.1.cell; have c3 := hS.2.2.2.cell; go_simp; with_reducible rfl)
       try simp only [Act.put, List.setIfInBounds_toArray, List.set_cons_zero, List.set_cons_succ])
    | (apply Flow.call
       · rfl
       · (intro wx hS; go_simp; constructor <;> with_reducible rfl)
       · (intro wx hS; first | exact compare_any _ _ _ _ _ _ _ | exact newer_any _ _ _ _ _ _ _)
       try simp only [Act.put, List.setIfInBounds_toArray, List.set_cons_zero, List.set_cons_succ]))
  refine Flow.done ?_
  intro w2 hS2
  go_wp2_with fail
  refine wp_region_flow (fun w' => Below w.heap.size w w' ∧ Blk w' b7 (keyObj 26 e s m) ∧ Blk w' b8 (keyObj 26 e s m') ∧ Blk w' b9 (keyObj 26 e2 s2 m2)) (by kernel_rfl) (by kernel_rfl) (by kernel_rfl)
    (fun _ _ h hb => ⟨thru h.1 hb, h.2.1.keep hb, h.2.2.1.keep hb, h.2.2.2.keep hb⟩) ⟨hS2.1.drew, hS2.2.1.draw, hS2.2.2.1.draw, hS2.2.2.2.draw⟩ ?_
  repeat (first
    | (apply Flow.idle
       · rfl
       try simp only [Act.put, List.setIfInBounds_toArray, List.set_cons_zero, List.set_cons_succ])
    | (apply Flow.value
       · rfl
       · (intro wx hS; have c1 := hS.2.1.cell; have c2 := hS.2.2.1.cell; have c3 := hS.2.2.2.cell; go_simp; with_reducible rfl)
       try simp only [Act.put, List.setIfInBounds_toArray, List.set_cons_zero, List.set_cons_succ])
    | (apply Flow.call
       · rfl
       · (intro wx hS; go_simp; constructor <;> with_reducible rfl)
       · (intro wx hS; first | exact compare_any _ _ _ _ _ _ _ | exact newer_any _ _ _ _ _ _ _)
       try simp only [Act.put, List.setIfInBounds_toArray, List.set_cons_zero, List.set_cons_succ]))
  refine Flow.done ?_
  intro w3 hS3
  go_wp2_with fail
  refine (right_any _ _ _ _).mono ?_
  rintro r w4 ⟨rfl, hb⟩
  have H1 := thru hS3.1 hb
  have H7 := hS3.2.1.keep hb
  have H8 := hS3.2.2.1.keep hb
  have H9 := hS3.2.2.2.keep hb
  rw [right_zero]
  clear hb hS3 hS2 HB K7 K8 K9
  obtain ⟨c70, c71, c72, -⟩ := H7.three
  obtain ⟨c80, c81, c82, -⟩ := H8.three
  go_wp2_with fail
  refine (compare_any _ _ _ _ _ _ _).mono ?_
  rintro r w5 ⟨rfl, hb⟩
  rw [hc12]
  have G1 := thru H1 hb
  have G7 := H7.keep hb
  have G8 := H8.keep hb
  have G9 := H9.keep hb
  clear hb H1 H7 H8 H9 c70 c71 c72 c80 c81 c82
  obtain ⟨c70, c71, c72, -⟩ := G7.three
  obtain ⟨c80, c81, c82, -⟩ := G8.three
  obtain ⟨c90, c91, c92, -⟩ := G9.three
  by_cases hyz : compareI e s m' e2 s2 m2 < 0
  · go_wp2_with fail
    refine (compare_any _ _ _ _ _ _ _).mono ?_
    rintro r w6 ⟨rfl, hb⟩
    have F1 := thru G1 hb
    go_wp2_with fail
    go_ret
    exact ⟨rfl, F1⟩
  · have hxz : 0 ≤ compareI e s m e2 s2 m2 := compare_trans (by rw [hc12]; omega) (by omega)
    have hyz : 0 ≤ compareI e s m' e2 s2 m2 := by omega
    go_wp2_with fail
    refine (compare_any _ _ _ _ _ _ _).mono ?_
    rintro r w6 ⟨rfl, hb⟩
    have F1 := thru G1 hb
    have F7 := G7.keep hb
    have F9 := G9.keep hb
    clear hb G1 G7 G8 G9 c70 c71 c72 c80 c81 c82 c90 c91 c92
    obtain ⟨c70, c71, c72, -⟩ := F7.three
    obtain ⟨c90, c91, c92, -⟩ := F9.three
    go_wp2_with fail
    refine (compare_any _ _ _ _ _ _ _).mono ?_
    rintro r w7 ⟨rfl, hb⟩
    have F2 := thru F1 hb
    go_wp2_with fail
    go_ret
    exact ⟨rfl, F2⟩

set_option maxHeartbeats 3200000 in
theorem line_F (e s m m' e2 s2 m2 : Int) (w : World) (hc12 : compareI e s m e s m' = -1) (hc21 : compareI e s m' e s m = 1) (hn12 : newerB e s e s = false) (he : (m == m') = false) (hm : decide (m < m') = false) :
    Calls Try.prog 4 #[.agg #[.int .u32 e, .int .u32 s, .int .i64 m], .agg #[.int .u32 e, .int .u32 s, .int .i64 m'], .agg #[.int .u32 e2, .int .u32 s2, .int .i64 m2]] w fun r w' => r = .returned (.bool true) ∧ Below w.heap.size w w' := by
  have hw1 : IntKind.i64.wrap (-1) = -1 := by decide
  have hw2 : IntKind.i64.wrap 1 = 1 := by decide
  have hw3 : IntKind.i64.wrap 0 = 0 := by decide
  go_enter Try.func4, Try.ntmps4
  go_wp2_with fail
  refine wp_region_flow_vars (fun w' => Below w.heap.size w w' ∧ Blk w' w.heap.size (keyObj 24 e s m) ∧ Blk w' (w.heap.size + 1) (keyObj 24 e s m') ∧ Blk w' (w.heap.size + 2) (keyObj 24 e2 s2 m2))
    [0, 1, 2, 3, 4, 5] [6, 7, 8] [9, 10, 11] (fun _ => keyObj 26 0 0 0) (by kernel_rfl) (by kernel_rfl) (by kernel_rfl) (by decide) (fun _ _ h hb => ⟨thru h.1 hb, h.2.1.keep hb, h.2.2.1.keep hb, h.2.2.2.keep hb⟩)
    ⟨(more (more (more (Below.refl _ _) _) _) _).drew, (((Blk.new _ _).old _).old _).draw, ((Blk.newAt _ (by simp)).old _).draw, (Blk.newAt _ (by simp)).draw⟩ ?_ (by decide) ?_
  · intro i hi a wx
    simp only [List.mem_cons, List.not_mem_nil, or_false] at hi
    rcases hi with rfl | rfl | rfl
    all_goals (refine ⟨_, rfl, ?_⟩; go_simp)
  refine flowN_sel _ _ (by decide) ?_
  simp only [sel, List.filterMap_cons, List.filterMap_nil, List.getElem?_toArray, List.getElem?_cons_succ, List.getElem?_cons_zero]
  repeat (first
    | (apply Flow.value
       · rfl
       · (intro wx hS; have c1 := hS.2.1.cell; have c2 := hS.2.2.1.cell; have c3 := hS.2.2.2.cell; go_simp; with_reducible rfl)
       try simp only [Act.put, List.setIfInBounds_toArray, List.set_cons_zero, List.set_cons_succ])
    | (apply Flow.call
       · rfl
       · (intro wx hS; go_simp; constructor <;> with_reducible rfl)
       · (intro wx hS; exact to_any _ _ _ _)
       try simp only [Act.put, List.setIfInBounds_toArray, List.set_cons_zero, List.set_cons_succ]))
  refine Flow.done ?_
  intro γ w1 hS hn hg
  obtain ⟨b7, g7⟩ := Option.ne_none_iff_exists'.1 (hg 6 (by simp))
  obtain ⟨b8, g8⟩ := Option.ne_none_iff_exists'.1 (hg 7 (by simp))
  obtain ⟨b9, g9⟩ := Option.ne_none_iff_exists'.1 (hg 8 (by simp))
  obtain ⟨k7, l7⟩ := hn.blk 6 (by simp) b7 g7
  obtain ⟨k8, l8⟩ := hn.blk 7 (by simp) b8 g8
  obtain ⟨k9, l9⟩ := hn.blk 8 (by simp) b9 g9
  have n78 := hn.apart 6 (by simp) 7 (by simp) (by decide) b7 b8 g7 g8
  have n79 := hn.apart 6 (by simp) 8 (by simp) (by decide) b7 b9 g7 g9
  have n89 := hn.apart 7 (by simp) 8 (by simp) (by decide) b8 b9 g8 g9
  simp only [World.size_alloc] at l7 l8 l9
  simp only [putNew, g7, g8, g9, dstOf, List.getElem?_toArray, List.getElem?_cons_succ, List.getElem?_cons_zero, Option.bind_some, Act.put, List.setIfInBounds_toArray, List.set_cons_zero, List.set_cons_succ]
  obtain ⟨c70, c71, c72, f70, f71, f72⟩ := k7.three
  obtain ⟨c80, c81, c82, f80, f81, f82⟩ := k8.three
  obtain ⟨c90, c91, c92, f90, f91, f92⟩ := k9.three
  refine wpOps_step rfl (by rfl) ?_
  go_simp
  refine wpOps_step rfl (by rfl) ?_
  go_simp
  refine wpOps_step rfl (by rfl) ?_
  go_simp
  refine wpOps_done ?_
  have K7 := ((((((((k7.set 0 (.int .u32 e)).set 1 (.int .u32 s)).set 2 (.int .i64 m)).setOther (p := ⟨b8, 0, none⟩) n78.symm (.int .u32 e)).setOther (p := ⟨b8, 1, none⟩) n78.symm (.int .u32 s)).setOther (p := ⟨b8, 2, none⟩) n78.symm (.int .i64 m')).setOther (p := ⟨b9, 0, none⟩) n79.symm (.int .u32 e2)).setOther (p := ⟨b9, 1, none⟩) n79.symm (.int .u32 s2)).setOther (p := ⟨b9, 2, none⟩) n79.symm (.int .i64 m2)
  have K8 := ((((((((k8.setOther (p := ⟨b7, 0, none⟩) n78 (.int .u32 e)).setOther (p := ⟨b7, 1, none⟩) n78 (.int .u32 s)).setOther (p := ⟨b7, 2, none⟩) n78 (.int .i64 m)).set 0 (.int .u32 e)).set 1 (.int .u32 s)).set 2 (.int .i64 m')).setOther (p := ⟨b9, 0, none⟩) n89.symm (.int .u32 e2)).setOther (p := ⟨b9, 1, none⟩) n89.symm (.int .u32 s2)).setOther (p := ⟨b9, 2, none⟩) n89.symm (.int .i64 m2)
  have K9 := ((((((((k9.setOther (p := ⟨b7, 0, none⟩) n79 (.int .u32 e)).setOther (p := ⟨b7, 1, none⟩) n79 (.int .u32 s)).setOther (p := ⟨b7, 2, none⟩) n79 (.int .i64 m)).setOther (p := ⟨b8, 0, none⟩) n89 (.int .u32 e)).setOther (p := ⟨b8, 1, none⟩) n89 (.int .u32 s)).setOther (p := ⟨b8, 2, none⟩) n89 (.int .i64 m')).set 0 (.int .u32 e2)).set 1 (.int .u32 s2)).set 2 (.int .i64 m2)
  have HB := ((((((((hS.1.setCell (p := ⟨b7, 0, none⟩) (by simp; omega) (.int .u32 e)).setCell (p := ⟨b7, 1, none⟩) (by simp; omega) (.int .u32 s)).setCell (p := ⟨b7, 2, none⟩) (by simp; omega) (.int .i64 m)).setCell (p := ⟨b8, 0, none⟩) (by simp; omega) (.int .u32 e)).setCell (p := ⟨b8, 1, none⟩) (by simp; omega) (.int .u32 s)).setCell (p := ⟨b8, 2, none⟩) (by simp; omega) (.int .i64 m')).setCell (p := ⟨b9, 0, none⟩) (by simp; omega) (.int .u32 e2)).setCell (p := ⟨b9, 1, none⟩) (by simp; omega) (.int .u32 s2)).setCell (p := ⟨b9, 2, none⟩) (by simp; omega) (.int .i64 m2)
  have K7 : Blk _ b7 (keyObj 26 e s m) := K7
  have K8 : Blk _ b8 (keyObj 26 e s m') := K8
  have K9 : Blk _ b9 (keyObj 26 e2 s2 m2) := K9
  clear c70 c71 c72 f70 f71 f72 c80 c81 c82 f80 f81 f82 c90 c91 c92 f90 f91 f92 k7 k8 k9 hS hn hg g7 g8 g9
  revert K7 K8 K9 HB
  generalize (((((((((w1.setCell ⟨b7, 0, none⟩ (.int .u32 e)).setCell ⟨b7, 1, none⟩ (.int .u32 s)).setCell ⟨b7, 2, none⟩ (.int .i64 m)).setCell ⟨b8, 0, none⟩ (.int .u32 e)).setCell ⟨b8, 1, none⟩ (.int .u32 s)).setCell ⟨b8, 2, none⟩ (.int .i64 m')).setCell ⟨b9, 0, none⟩ (.int .u32 e2)).setCell ⟨b9, 1, none⟩ (.int .u32 s2)).setCell ⟨b9, 2, none⟩ (.int .i64 m2)) = W
  intro HB K7 K8 K9
  clear n78 n79 n89 l7 l8 l9
  go_wp2_with fail
  refine wp_region_flow (fun w' => Below w.heap.size w w' ∧ Blk w' b7 (keyObj 26 e s m) ∧ Blk w' b8 (keyObj 26 e s m') ∧ Blk w' b9 (keyObj 26 e2 s2 m2)) (by kernel_rfl) (by kernel_rfl) (by kernel_rfl)
    (fun _ _ h hb => ⟨thru h.1 hb, h.2.1.keep hb, h.2.2.1.keep hb, h.2.2.2.keep hb⟩) ⟨HB.drew, K7.draw, K8.draw, K9.draw⟩ ?_
  repeat (first
    | (apply Flow.idle
       · rfl
       try simp only [Act.put, List.setIfInBounds_toArray, List.set_cons_zero, List.set_cons_succ])
    | (apply Flow.value
       · rfl
       · (intro wx hS; have c1 := hS.2.1.cell; have c2 := hS.2.2.1.cell; have c3 := hS.2.2.2.cell; go_simp; with_reducible rfl)
       try simp only [Act.put, List.setIfInBounds_toArray, List.set_cons_zero, List.set_cons_succ])
    | (apply Flow.call
       · rfl
       · (intro wx hS; go_simp; constructor <;> with_reducible rfl)
       · (intro wx hS; first | exact compare_any _ _ _ _ _ _ _ | exact newer_any _ _ _ _ _ _ _)
       try simp only [Act.put, List.setIfInBounds_toArray, List.set_cons_zero, List.set_cons_succ]))
  refine Flow.done ?_
  intro w2 hS2
  go_wp2_with fail
  refine wp_region_flow (fun w' => Below w.heap.size w w' ∧ Blk w' b7 (keyObj 26 e s m) ∧ Blk w' b8 (keyObj 26 e s m') ∧ Blk w' b9 (keyObj 26 e2 s2 m2)) (by kernel_rfl) (by kernel_rfl) (by kernel_rfl)
    (fun _ _ h hb => ⟨thru h.1 hb, h.2.1.keep hb, h.2.2.1.keep hb, h.2.2.2.keep hb⟩) ⟨hS2.1.drew, hS2.2.1.draw, hS2.2.2.1.draw, hS2.2.2.2.draw⟩ ?_
  repeat (first
    | (apply Flow.idle
       · rfl
       try simp only [Act.put, List.setIfInBounds_toArray, List.set_cons_zero, List.set_cons_succ])
    | (apply Flow.value
       · rfl
       · (intro wx hS; have c1 := hS.2.1.cell; have c2 := hS.2.2.1.cell; have c3 := hS.2.2.2.cell; go_simp; with_reducible rfl)
       try simp only [Act.put, List.setIfInBounds_toArray, List.set_cons_zero, List.set_cons_succ])
    | (apply Flow.call
       · rfl
       · (intro wx hS; go_simp; constructor <;> with_reducible rfl)
       · (intro wx hS; first | exact compare_any _ _ _ _ _ _ _ | exact newer_any _ _ _ _ _ _ _)
       try simp only [Act.put, List.setIfInBounds_toArray, List.set_cons_zero, List.set_cons_succ]))
  refine Flow.done ?_
  intro w3 hS3
  go_wp2_with fail
  refine (right_any _ _ _ _).mono ?_
  rintro r w4 ⟨rfl, hb⟩
  have H1 := thru hS3.1 hb
  have H7 := hS3.2.1.keep hb
  have H8 := hS3.2.2.1.keep hb
  have H9 := hS3.2.2.2.keep hb
  rw [right_zero]
  clear hb hS3 hS2 HB K7 K8 K9
  obtain ⟨c70, c71, c72, -⟩ := H7.three
  obtain ⟨c80, c81, c82, -⟩ := H8.three
  go_wp2_with fail
  refine (compare_any _ _ _ _ _ _ _).mono ?_
  rintro r w5 ⟨rfl, hb⟩
  rw [hc12]
  have G1 := thru H1 hb
  go_wp2_with fail
  go_ret
  exact ⟨rfl, G1⟩

set_option maxHeartbeats 3200000 in
theorem line_G (e s m e2 s2 m2 : Int) (w : World) (hc12 : compareI e s m e s m = 0) (hn12 : newerB e s e s = false) :
    Calls Try.prog 4 #[.agg #[.int .u32 e, .int .u32 s, .int .i64 m], .agg #[.int .u32 e, .int .u32 s, .int .i64 m], .agg #[.int .u32 e2, .int .u32 s2, .int .i64 m2]] w fun r w' => r = .returned (.bool true) ∧ Below w.heap.size w w' := by
  have hw1 : IntKind.i64.wrap (-1) = -1 := by decide
  have hw2 : IntKind.i64.wrap 1 = 1 := by decide
  have hw3 : IntKind.i64.wrap 0 = 0 := by decide
  go_enter Try.func4, Try.ntmps4
  go_wp2_with fail
  refine wp_region_flow_vars (fun w' => Below w.heap.size w w' ∧ Blk w' w.heap.size (keyObj 24 e s m) ∧ Blk w' (w.heap.size + 1) (keyObj 24 e s m) ∧ Blk w' (w.heap.size + 2) (keyObj 24 e2 s2 m2))
    [0, 1, 2, 3, 4, 5] [6, 7, 8] [9, 10, 11] (fun _ => keyObj 26 0 0 0) (by kernel_rfl) (by kernel_rfl) (by kernel_rfl) (by decide) (fun _ _ h hb => ⟨thru h.1 hb, h.2.1.keep hb, h.2.2.1.keep hb, h.2.2.2.keep hb⟩)
    ⟨(more (more (more (Below.refl _ _) _) _) _).drew, (((Blk.new _ _).old _).old _).draw, ((Blk.newAt _ (by simp)).old _).draw, (Blk.newAt _ (by simp)).draw⟩ ?_ (by decide) ?_
  · intro i hi a wx
    simp only [List.mem_cons, List.not_mem_nil, or_false] at hi
    rcases hi with rfl | rfl | rfl
    all_goals (refine ⟨_, rfl, ?_⟩; go_simp)
  refine flowN_sel _ _ (by decide) ?_
  simp only [sel, List.filterMap_cons, List.filterMap_nil, List.getElem?_toArray, List.getElem?_cons_succ, List.getElem?_cons_zero]
  repeat (first
    | (apply Flow.value
       · rfl
       · (intro wx hS; have c1 := hS.2.1.cell; have c2 := hS.2.2.1.cell; have c3 := hS.2.2.2.cell; go_simp; with_reducible rfl)
       try simp only [Act.put, List.setIfInBounds_toArray, List.set_cons_zero, List.set_cons_succ])
    | (apply Flow.call
       · rfl
       · (intro wx hS; go_simp; constructor <;> with_reducible rfl)
       · (intro wx hS; exact to_any _ _ _ _)
       try simp only [Act.put, List.setIfInBounds_toArray, List.set_cons_zero, List.set_cons_succ]))
  refine Flow.done ?_
  intro γ w1 hS hn hg
  obtain ⟨b7, g7⟩ := Option.ne_none_iff_exists'.1 (hg 6 (by simp))
  obtain ⟨b8, g8⟩ := Option.ne_none_iff_exists'.1 (hg 7 (by simp))
  obtain ⟨b9, g9⟩ := Option.ne_none_iff_exists'.1 (hg 8 (by simp))
  obtain ⟨k7, l7⟩ := hn.blk 6 (by simp) b7 g7
  obtain ⟨k8, l8⟩ := hn.blk 7 (by simp) b8 g8
  obtain ⟨k9, l9⟩ := hn.blk 8 (by simp) b9 g9
  have n78 := hn.apart 6 (by simp) 7 (by simp) (by decide) b7 b8 g7 g8
  have n79 := hn.apart 6 (by simp) 8 (by simp) (by decide) b7 b9 g7 g9
  have n89 := hn.apart 7 (by simp) 8 (by simp) (by decide) b8 b9 g8 g9
  simp only [World.size_alloc] at l7 l8 l9
  simp only [putNew, g7, g8, g9, dstOf, List.getElem?_toArray, List.getElem?_cons_succ, List.getElem?_cons_zero, Option.bind_some, Act.put, List.setIfInBounds_toArray, List.set_cons_zero, List.set_cons_succ]
  obtain ⟨c70, c71, c72, f70, f71, f72⟩ := k7.three
  obtain ⟨c80, c81, c82, f80, f81, f82⟩ := k8.three
  obtain ⟨c90, c91, c92, f90, f91, f92⟩ := k9.three
  refine wpOps_step rfl (by rfl) ?_
  go_simp
  refine wpOps_step rfl (by rfl) ?_
  go_simp
  refine wpOps_step rfl (by rfl) ?_
  go_simp
  refine wpOps_done ?_
  have K7 := ((((((((k7.set 0 (.int .u32 e)).set 1 (.int .u32 s)).set 2 (.int .i64 m)).setOther (p := ⟨b8, 0, none⟩) n78.symm (.int .u32 e)).setOther (p := ⟨b8, 1, none⟩) n78.symm (.int .u32 s)).setOther (p := ⟨b8, 2, none⟩) n78.symm (.int .i64 m)).setOther (p := ⟨b9, 0, none⟩) n79.symm (.int .u32 e2)).setOther (p := ⟨b9, 1, none⟩) n79.symm (.int .u32 s2)).setOther (p := ⟨b9, 2, none⟩) n79.symm (.int .i64 m2)
  have K8 := ((((((((k8.setOther (p := ⟨b7, 0, none⟩) n78 (.int .u32 e)).setOther (p := ⟨b7, 1, none⟩) n78 (.int .u32 s)).setOther (p := ⟨b7, 2, none⟩) n78 (.int .i64 m)).set 0 (.int .u32 e)).set 1 (.int .u32 s)).set 2 (.int .i64 m)).setOther (p := ⟨b9, 0, none⟩) n89.symm (.int .u32 e2)).setOther (p := ⟨b9, 1, none⟩) n89.symm (.int .u32 s2)).setOther (p := ⟨b9, 2, none⟩) n89.symm (.int .i64 m2)
  have K9 := ((((((((k9.setOther (p := ⟨b7, 0, none⟩) n79 (.int .u32 e)).setOther (p := ⟨b7, 1, none⟩) n79 (.int .u32 s)).setOther (p := ⟨b7, 2, none⟩) n79 (.int .i64 m)).setOther (p := ⟨b8, 0, none⟩) n89 (.int .u32 e)).setOther (p := ⟨b8, 1, none⟩) n89 (.int .u32 s)).setOther (p := ⟨b8, 2, none⟩) n89 (.int .i64 m)).set 0 (.int .u32 e2)).set 1 (.int .u32 s2)).set 2 (.int .i64 m2)
  have HB := ((((((((hS.1.setCell (p := ⟨b7, 0, none⟩) (by simp; omega) (.int .u32 e)).setCell (p := ⟨b7, 1, none⟩) (by simp; omega) (.int .u32 s)).setCell (p := ⟨b7, 2, none⟩) (by simp; omega) (.int .i64 m)).setCell (p := ⟨b8, 0, none⟩) (by simp; omega) (.int .u32 e)).setCell (p := ⟨b8, 1, none⟩) (by simp; omega) (.int .u32 s)).setCell (p := ⟨b8, 2, none⟩) (by simp; omega) (.int .i64 m)).setCell (p := ⟨b9, 0, none⟩) (by simp; omega) (.int .u32 e2)).setCell (p := ⟨b9, 1, none⟩) (by simp; omega) (.int .u32 s2)).setCell (p := ⟨b9, 2, none⟩) (by simp; omega) (.int .i64 m2)
  have K7 : Blk _ b7 (keyObj 26 e s m) := K7
  have K8 : Blk _ b8 (keyObj 26 e s m) := K8
  have K9 : Blk _ b9 (keyObj 26 e2 s2 m2) := K9
  clear c70 c71 c72 f70 f71 f72 c80 c81 c82 f80 f81 f82 c90 c91 c92 f90 f91 f92 k7 k8 k9 hS hn hg g7 g8 g9
  revert K7 K8 K9 HB
  generalize (((((((((w1.setCell ⟨b7, 0, none⟩ (.int .u32 e)).setCell ⟨b7, 1, none⟩ (.int .u32 s)).setCell ⟨b7, 2, none⟩ (.int .i64 m)).setCell ⟨b8, 0, none⟩ (.int .u32 e)).setCell ⟨b8, 1, none⟩ (.int .u32 s)).setCell ⟨b8, 2, none⟩ (.int .i64 m)).setCell ⟨b9, 0, none⟩ (.int .u32 e2)).setCell ⟨b9, 1, none⟩ (.int .u32 s2)).setCell ⟨b9, 2, none⟩ (.int .i64 m2)) = W
  intro HB K7 K8 K9
  clear n78 n79 n89 l7 l8 l9
  go_wp2_with fail
  refine wp_region_flow (fun w' => Below w.heap.size w w' ∧ Blk w' b7 (keyObj 26 e s m) ∧ Blk w' b8 (keyObj 26 e s m) ∧ Blk w' b9 (keyObj 26 e2 s2 m2)) (by kernel_rfl) (by kernel_rfl) (by kernel_rfl)
    (fun _ _ h hb => ⟨thru h.1 hb, h.2.1.keep hb, h.2.2.1.keep hb, h.2.2.2.keep hb⟩) ⟨HB.drew, K7.draw, K8.draw, K9.draw⟩ ?_
  repeat (first
    | (apply Flow.idle
       · rfl
       try simp only [Act.put, List.setIfInBounds_toArray, List.set_cons_zero, List.set_cons_succ])
    | (apply Flow.value
       · rfl
       · (intro wx hS; have c1 := hS.2.1.cell; have c2 := hS.2.2.1.cell; have c3 := hS.2.2.2.cell; go_simp; with_reducible rfl)
       try simp only [Act.put, List.setIfInBounds_toArray, List.set_cons_zero, List.set_cons_succ])
    | (apply Flow.call
       · rfl
       · (intro wx hS; go_simp; constructor <;> with_reducible rfl)
       · (intro wx hS; first | exact compare_any _ _ _ _ _ _ _ | exact newer_any _ _ _ _ _ _ _)
       try simp only [Act.put, List.setIfInBounds_toArray, List.set_cons_zero, List.set_cons_succ]))
  refine Flow.done ?_
  intro w2 hS2
  go_wp2_with fail
  refine wp_region_flow (fun w' => Below w.heap.size w w' ∧ Blk w' b7 (keyObj 26 e s m) ∧ Blk w' b8 (keyObj 26 e s m) ∧ Blk w' b9 (keyObj 26 e2 s2 m2)) (by kernel_rfl) (by kernel_rfl) (by kernel_rfl)
    (fun _ _ h hb => ⟨thru h.1 hb, h.2.1.keep hb, h.2.2.1.keep hb, h.2.2.2.keep hb⟩) ⟨hS2.1.drew, hS2.2.1.draw, hS2.2.2.1.draw, hS2.2.2.2.draw⟩ ?_
  repeat (first
    | (apply Flow.idle
       · rfl
       try simp only [Act.put, List.setIfInBounds_toArray, List.set_cons_zero, List.set_cons_succ])
    | (apply Flow.value
       · rfl
       · (intro wx hS; have c1 := hS.2.1.cell; have c2 := hS.2.2.1.cell; have c3 := hS.2.2.2.cell; go_simp; with_reducible rfl)
       try simp only [Act.put, List.setIfInBounds_toArray, List.set_cons_zero, List.set_cons_succ])
    | (apply Flow.call
       · rfl
       · (intro wx hS; go_simp; constructor <;> with_reducible rfl)
       · (intro wx hS; first | exact compare_any _ _ _ _ _ _ _ | exact newer_any _ _ _ _ _ _ _)
       try simp only [Act.put, List.setIfInBounds_toArray, List.set_cons_zero, List.set_cons_succ]))
  refine Flow.done ?_
  intro w3 hS3
  go_wp2_with fail
  refine (right_any _ _ _ _).mono ?_
  rintro r w4 ⟨rfl, hb⟩
  have H1 := thru hS3.1 hb
  have H7 := hS3.2.1.keep hb
  have H8 := hS3.2.2.1.keep hb
  have H9 := hS3.2.2.2.keep hb
  rw [right_zero]
  clear hb hS3 hS2 HB K7 K8 K9
  obtain ⟨c70, c71, c72, -⟩ := H7.three
  obtain ⟨c80, c81, c82, -⟩ := H8.three
  go_wp2_with fail
  refine (compare_any _ _ _ _ _ _ _).mono ?_
  rintro r w5 ⟨rfl, hb⟩
  rw [hc12]
  have G1 := thru H1 hb
  have G7 := H7.keep hb
  have G8 := H8.keep hb
  have G9 := H9.keep hb
  clear hb H1 H7 H8 H9 c70 c71 c72 c80 c81 c82
  obtain ⟨c70, c71, c72, -⟩ := G7.three
  obtain ⟨c80, c81, c82, -⟩ := G8.three
  obtain ⟨c90, c91, c92, -⟩ := G9.three
  by_cases hyz : compareI e s m e2 s2 m2 < 0
  · go_wp2_with fail
    refine (compare_any _ _ _ _ _ _ _).mono ?_
    rintro r w6 ⟨rfl, hb⟩
    have F1 := thru G1 hb
    go_wp2_with fail
    go_ret
    exact ⟨rfl, F1⟩
  · have hxz : 0 ≤ compareI e s m e2 s2 m2 := compare_trans (by rw [hc12]; omega) (by omega)
    have hyz : 0 ≤ compareI e s m e2 s2 m2 := by omega
    go_wp2_with fail
    refine (compare_any _ _ _ _ _ _ _).mono ?_
    rintro r w6 ⟨rfl, hb⟩
    have F1 := thru G1 hb
    have F7 := G7.keep hb
    have F9 := G9.keep hb
    clear hb G1 G7 G8 G9 c70 c71 c72 c80 c81 c82 c90 c91 c92
    obtain ⟨c70, c71, c72, -⟩ := F7.three
    obtain ⟨c90, c91, c92, -⟩ := F9.three
    go_wp2_with fail
    refine (compare_any _ _ _ _ _ _ _).mono ?_
    rintro r w7 ⟨rfl, hb⟩
    have F2 := thru F1 hb
    go_wp2_with fail
    go_ret
    exact ⟨rfl, F2⟩

theorem rankLine_walk (e s m e' s' m' e2 s2 m2 : Int) (w : World) (_ : (Lit.int .u32 e).wf = true) (_ : (Lit.int .u32 s).wf = true) (_ : (Lit.int .i64 m).wf = true) (_ : (Lit.int .u32 e').wf = true) (_ : (Lit.int .u32 s').wf = true) (_ : (Lit.int .i64 m').wf = true)
    (_ : (Lit.int .u32 e2).wf = true) (_ : (Lit.int .u32 s2).wf = true) (_ : (Lit.int .i64 m2).wf = true) :
    Calls Try.prog 4 #[.agg #[.int .u32 e, .int .u32 s, .int .i64 m], .agg #[.int .u32 e', .int .u32 s', .int .i64 m'], .agg #[.int .u32 e2, .int .u32 s2, .int .i64 m2]] w fun r w' => r = .returned (.bool true) ∧ Below w.heap.size w w' := by
  rcases Int.lt_trichotomy e e' with h | rfl | h
  · exact line_A e s m e' s' m' e2 s2 m2 w (by unfold compareI; repeat' split <;> omega) (by unfold compareI; repeat' split <;> omega) (decide_eq_false (by omega)) (by simp; omega)
  · rcases Int.lt_trichotomy s s' with h | rfl | h
    · exact line_C e s m s' m' e2 s2 m2 w (by unfold compareI; repeat' split <;> omega) (by unfold compareI; repeat' split <;> omega) (decide_eq_false (by omega)) (by simp; omega)
    · rcases Int.lt_trichotomy m m' with h | rfl | h
      · exact line_E e s m m' e2 s2 m2 w (by unfold compareI; repeat' split <;> omega) (by unfold compareI; repeat' split <;> omega) (decide_eq_false (by omega)) (by simp; omega) h
      · exact line_G e s m e2 s2 m2 w (by unfold compareI; repeat' split <;> omega) (decide_eq_false (by omega))
      · exact line_F e s m m' e2 s2 m2 w (by unfold compareI; repeat' split <;> omega) (by unfold compareI; repeat' split <;> omega) (decide_eq_false (by omega)) (by simp; omega) (decide_eq_false (by omega))
    · exact line_D e s m s' m' e2 s2 m2 w (by unfold compareI; repeat' split <;> omega) (by unfold compareI; repeat' split <;> omega) (decide_eq_true (by omega)) (by simp; omega)
  · exact line_B e s m e' s' m' e2 s2 m2 w (by unfold compareI; repeat' split <;> omega) (by unfold compareI; repeat' split <;> omega) (decide_eq_true (by omega)) (by simp; omega)
end Go.Proofs.Ytoembbdjpelogaa
