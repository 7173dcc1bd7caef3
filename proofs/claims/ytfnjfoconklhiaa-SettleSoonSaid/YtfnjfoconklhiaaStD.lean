/-
  What Waits and Due ask of news.
-/
import Derived.Test.YtfnjfoconklhiaaStC
namespace Go.Proofs.Ytfnjfoconklhiaa
open Go.RowKit

theorem Below.drewNs {B : Nat} {w w1 : World} (h : Below B w w1) (n : Nat) : Below B w (w1.drewN n) := ⟨h.os, h.tape, h.output, h.size, h.block⟩
theorem waitsq_any (n : NW) (w : World) : Calls Try.prog 29 #[.agg (nwc n).toArray] w fun r w' => r = .returned (.bool n.waits) ∧ Below w.heap.size w w' := by
  obtain ⟨nt, e, s, m, f, wt, u⟩ := n
  go_enter Try.func29, Try.ntmps29
  unfold nwc
  go_wp2
  go_ret
  exact ⟨rfl, more (Below.refl _ _) _⟩
/-- The world of Due's walk over news. -/
structure DQ (p : PS) (now : Int) (b B2 B3 : Nat) (w : World) : Prop where
  p : Blk w b p.obj
  b2 : Blk w B2 (.cells #[.pointer (some ⟨b, 0, none⟩)] 26)
  b3 : Blk w B3 (.cells #[.int .i64 now] 2)
theorem DQ.keep {p : PS} {now : Int} {b B2 B3 : Nat} {w w' : World} (h : DQ p now b B2 B3 w) (hb : Below w.heap.size w w') : DQ p now b B2 B3 w' := ⟨h.p.keep hb, h.b2.keep hb, h.b3.keep hb⟩
theorem DQ.old {p : PS} {now : Int} {b B2 B3 : Nat} {w : World} (h : DQ p now b B2 B3 w) (o : Obj) : DQ p now b B2 B3 (w.alloc o) := h.keep (more (Below.refl _ _) o)
set_option maxHeartbeats 1600000 in
theorem dueq_any (p : PS) (now : Int) (b B2 B3 : Nat) (n : NW) (w : World) (hn : tmB n.first = true) (hp : 0 ≤ p.settle ∧ p.settle ≤ 1048576) (h : DQ p now b B2 B3 w) :
    Calls Try.prog 27 #[.agg (nwc n).toArray, .pointer (some ⟨B2, 0, none⟩), .pointer (some ⟨B3, 0, none⟩)] w fun r w' => r = .returned (.bool (p.ripe now n)) ∧ Below w.heap.size w w' := by
  have HS := fun w1 => settled_any p n w1 hn hp
  have HR : Kp (p.ripe now n = (n.waits && decide (setT p n ≤ now))) := ⟨rfl⟩
  have hC := fun (w : World) => box_row (t := 69) (cs := nwc n) (info69s n) w
  obtain ⟨A, hA⟩ : ∃ A, A = w.heap.size := ⟨_, rfl⟩
  have HB : Kp (Blk (w.alloc (.cells (nwc n).toArray 69)) A (.cells (nwc n).toArray 69) ∧ DQ p now b B2 B3 (w.alloc (.cells (nwc n).toArray 69)) ∧ Below A w (w.alloc (.cells (nwc n).toArray 69))) :=
    ⟨Blk.newAt _ hA, h.old _, by rw [hA]; exact more (Below.refl _ _) _⟩
  have HAL : Kp (A ≤ (w.alloc (.cells (nwc n).toArray 69)).heap.size) := ⟨Nat.le_of_lt HB.out.1.lt⟩
  clear h hn hp
  go_enter Try.func27, Try.ntmps27
  go_wp2_with (refine wpList_box_eq rfl 69 (.tmp 0) rfl _ rfl _ _ (hC _) ?_)
  rw [← hA]
  clear hC
  have HAe := Kp.mk hA
  clear hA
  generalize w.alloc (.cells (nwc n).toArray 69) = W at *
  cases hw : n.waits with
  | false =>
    have HV : Kp (p.ripe now n = false) := ⟨by rw [HR.out, hw]; rfl⟩
    have p5 : ∀ wx, Blk wx A (.cells (nwc n).toArray 69) → wx.cell? ⟨A, 5, none⟩ = some (.bool false) := fun wx hk => (hk.cell 5).trans (by rw [← hw]; rfl)
    have q5 := p5 _ HB.out.1
    clear hw p5 HS
    go_quiet (fail)
    go_wp2_with fail
    go_ret
    exact ⟨retb HV.out.symm, by rw [← HAe.out]; exact Below.drewNs HB.out.2.2 _⟩
  | true =>
    have p5 : ∀ wx, Blk wx A (.cells (nwc n).toArray 69) → wx.cell? ⟨A, 5, none⟩ = some (.bool true) := fun wx hk => (hk.cell 5).trans (by rw [← hw]; rfl)
    have HV : Kp (p.ripe now n = decide (setT p n ≤ now)) := ⟨by rw [HR.out, hw]; rfl⟩
    clear hw
    refine wp_region_flow (fun w' => Blk w' A (.cells (nwc n).toArray 69) ∧ DQ p now b B2 B3 w' ∧ Below A w w' ∧ A ≤ w'.heap.size) (by kernel_rfl) (by kernel_rfl) (by kernel_rfl)
      (fun _ _ h hb => ⟨h.1.keep hb, h.2.1.keep hb, h.2.2.1.trans (hb.mono h.2.2.2), Nat.le_trans h.2.2.2 hb.size⟩) (⟨HB.out.1.draw, ⟨HB.out.2.1.p.draw, HB.out.2.1.b2.draw, HB.out.2.1.b3.draw⟩, Below.drew HB.out.2.2, HAL.out⟩) ?_
    repeat (first
      | (apply Flow.value
         · rfl
         · (intro wx hS; exact exec_load_mid (cs := nwc n) rfl rfl (hS.1.range (o := 0) rfl) Try.underlying69 rfl (by kernel_rfl))
         try simp only [Act.put, List.setIfInBounds_toArray, List.set_cons_zero, List.set_cons_succ])
      | (apply Flow.value
         · rfl
         · (intro wx hS; exact exec_load_mid (cs := [.int .i64 p.period, .int .i64 p.settle]) rfl rfl (hS.2.1.p.range (o := 0) rfl) Try.underlying25 rfl (by kernel_rfl))
         try simp only [Act.put, List.setIfInBounds_toArray, List.set_cons_zero, List.set_cons_succ])
      | (apply Flow.value
         · rfl
         · (intro wx hS; have q5 := p5 _ hS.1; obtain ⟨q2, -⟩ := hS.2.1.b2.one; obtain ⟨q3, -⟩ := hS.2.1.b3.one; go_simp; with_reducible rfl)
         try simp only [Act.put, List.setIfInBounds_toArray, List.set_cons_zero, List.set_cons_succ])
      | (apply Flow.call
         · rfl
         · intro wx hS; go_simp; constructor <;> with_reducible rfl
         · intro wx hS; exact HS wx
         try simp only [Act.put, List.setIfInBounds_toArray, List.set_cons_zero, List.set_cons_succ]))
    refine Flow.done ?_
    intro w2 hS
    have HS2 := Kp.mk hS
    clear hS
    go_wp2_with fail
    go_ret
    exact ⟨retb HV.out.symm, by rw [← HAe.out]; exact HS2.out.2.2.1⟩
end Go.Proofs.Ytfnjfoconklhiaa
