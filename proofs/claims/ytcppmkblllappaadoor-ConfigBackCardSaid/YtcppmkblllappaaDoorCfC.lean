/-
  May a number be what it is? Check.
-/
import Derived.Test.YtcppmkblllappaaDoorCfB
namespace Go.Proofs.YtcppmkblllappaaDoor
open Go.RowKit

theorem Blk.five {w : World} {b : Nat} {v0 v1 v2 v3 v4 : Value} {t : TypeId} (h : Blk w b (.cells #[v0, v1, v2, v3, v4] t)) :
    w.cell? ⟨b, 0, none⟩ = some v0 ∧ w.cell? ⟨b, 1, none⟩ = some v1 ∧ w.cell? ⟨b, 2, none⟩ = some v2 ∧ w.cell? ⟨b, 3, none⟩ = some v3 ∧ w.cell? ⟨b, 4, none⟩ = some v4 ∧ True :=
  ⟨h.cell 0, h.cell 1, h.cell 2, h.cell 3, h.cell 4, trivial⟩
def pw (v : Int) : Bool := decide (v = 1 ∨ v = 2 ∨ v = 4 ∨ v = 8)
theorem c64_any (v : Int) (h : 1 ≤ v ∧ v ≤ 8) (w : World) : Calls Tryd.prog 52 #[.int .u64 v] w fun r w' => r = .returned (.int .i64 (if pw v = true then 1 else if v = 7 then 3 else 2)) ∧ w = w' := by
  have hv : v = 1 ∨ v = 2 ∨ v = 3 ∨ v = 4 ∨ v = 5 ∨ v = 6 ∨ v = 7 ∨ v = 8 := by omega
  rcases hv with rfl | rfl | rfl | rfl | rfl | rfl | rfl | rfl
  all_goals
    go_enter Tryd.func52, Tryd.ntmps52
    go_wp2_with fail
    go_ret
    exact ⟨by kernel_rfl, rfl⟩
theorem ones_any (v : Int) (h : 1 ≤ v ∧ v ≤ 8) (w : World) : Calls Tryd.prog 41 #[.int .u64 v] w fun r w' => r = .returned (.int .i64 (if pw v = true then 1 else if v = 7 then 3 else 2)) ∧ w = w' := by
  have HC := fun wx => c64_any v h wx
  generalize (if pw v = true then (1 : Int) else if v = 7 then 3 else 2) = x at HC
  go_enter Tryd.func41, Tryd.ntmps41
  go_wp2_with fail
  refine (HC _).mono ?_
  rintro r w1 ⟨rfl, rfl⟩
  go_wp2_with fail
  go_ret
  exact ⟨rfl, rfl⟩
/-- May the i-th number be v? -/
def mayB (i : Nat) (v : Int) : Bool := decide (ls i ≤ v ∧ v ≤ gt i) && (decide (i ≠ 0) || pw v)
def wname : List UInt8 := [119, 105, 100, 116, 104]
theorem nm_width : ∀ i, i < 15 → ((nmA i).toList == [119, 105, 100, 116, 104]) = decide (i = 0) := by
  have : ∀ i : Fin 15, ((nmA i).toList == [119, 105, 100, 116, 104]) = decide ((i : Nat) = 0) := by decide +kernel
  exact fun i hi => this ⟨i, hi⟩
set_option maxHeartbeats 6400000 in
theorem may_any (g i : Nat) (v : Int) (hi : i < 15) (w : World) (hv : -9223372036854775808 ≤ v ∧ v ≤ 9223372036854775807) (hc : w.cell? ⟨g, i, none⟩ = some (.int .i64 v)) (hg : g < w.heap.size) :
    Calls Tryd.prog 29 #[.agg #[.string (nmA i), .int .i64 (ls i), .int .i64 (gt i), .int .i64 (us i), .pointer (some ⟨g, i, none⟩)]] w fun r w' => r = .returned (.bool (mayB i v)) ∧ Below w.heap.size w w' := by
  have hw := nm_width i hi
  have HM : Kp (mayB i v = (decide (ls i ≤ v ∧ v ≤ gt i) && (decide (i ≠ 0) || pw v))) := ⟨rfl⟩
  have H8 : Kp (i = 0 → ls i = 1 ∧ gt i = 8) := ⟨fun h => by subst h; exact ⟨rfl, rfl⟩⟩
  obtain ⟨M, hM⟩ : ∃ M, M = mayB i v := ⟨_, rfl⟩
  rw [← hM] at HM ⊢
  obtain ⟨nm, hnm⟩ : ∃ nm, nm = nmA i := ⟨_, rfl⟩
  obtain ⟨a, ha⟩ : ∃ a, a = ls i := ⟨_, rfl⟩
  obtain ⟨b, hb⟩ : ∃ b, b = gt i := ⟨_, rfl⟩
  obtain ⟨u, hu⟩ : ∃ u, u = us i := ⟨_, rfl⟩
  rw [← hnm] at hw ⊢
  rw [← ha] at HM H8 ⊢
  rw [← hb] at HM H8 ⊢
  rw [← hu]
  clear hM hnm ha hb hu
  obtain ⟨X, hX⟩ : ∃ X, X = w.heap.size := ⟨_, rfl⟩
  have HX := Kp.mk hX
  obtain ⟨w1, hw1⟩ : ∃ w1, w1 = w.alloc (.cells #[.string nm, .int .i64 a, .int .i64 b, .int .i64 u, .pointer (some ⟨g, i, none⟩)] 75) := ⟨_, rfl⟩
  have HW1 := Kp.mk hw1
  have K1 : Kp (Blk w1 X (.cells #[.string nm, .int .i64 a, .int .i64 b, .int .i64 u, .pointer (some ⟨g, i, none⟩)] 75) ∧ Below w.heap.size w w1) := ⟨by rw [hw1]; exact Blk.newAt _ hX, by rw [hw1]; exact more (Below.refl _ _) _⟩
  have HC : Kp (∀ wx, Below w.heap.size w wx → wx.cell? ⟨g, i, none⟩ = some (.int .i64 v)) := ⟨fun wx hb => (hb.cell (p := ⟨g, i, none⟩) hg).trans hc⟩
  clear hX hw1 hc hg
  have REG : ∀ (Q : Bool), True := fun _ => trivial
  clear REG
  by_cases h1 : v < a
  · have HF : Kp (M = false) := ⟨by rw [HM.out]; simp; omega⟩
    have b1 : decide (v < a) = true := by simp [h1]
    clear HM H8 hw
    go_enter Tryd.func29, Tryd.ntmps29
    go_upto_region 1 with fail
    rw [← HW1.out, ← HX.out]
    refine wp_region_flow (fun w' => Blk w' X (.cells #[.string nm, .int .i64 a, .int .i64 b, .int .i64 u, .pointer (some ⟨g, i, none⟩)] 75) ∧ Below w.heap.size w w') (by kernel_rfl) (by kernel_rfl) (by kernel_rfl)
      (fun _ _ h hb => ⟨h.1.keep hb, h.2.trans (hb.mono h.2.size)⟩) (⟨K1.out.1.draw, K1.out.2.drew⟩) ?_
    repeat (first
      | (apply Flow.idle
         · rfl
         try simp only [Act.put, List.setIfInBounds_toArray, List.set_cons_zero, List.set_cons_succ])
      | (apply Flow.value
         · rfl
         · (intro wx hS; obtain ⟨x0, x1, x2, x3, x4, -⟩ := hS.1.five; have cc := HC.out _ hS.2; go_simp; with_reducible rfl)
         try simp only [Act.put, List.setIfInBounds_toArray, List.set_cons_zero, List.set_cons_succ]))
    refine Flow.done ?_
    intro w2 hS
    have K2 := Kp.mk hS.2
    clear hS
    go_wp2_with fail
    go_ret
    exact ⟨by rw [HF.out]; rfl, K2.out⟩
  · by_cases h2 : b < v
    · have HF : Kp (M = false) := ⟨by rw [HM.out]; simp; omega⟩
      have b1 : decide (v < a) = false := by simp; omega
      have b2 : decide (b < v) = true := by simp [h2]
      clear HM H8 hw
      go_enter Tryd.func29, Tryd.ntmps29
      go_upto_region 1 with fail
      rw [← HW1.out, ← HX.out]
      refine wp_region_flow (fun w' => Blk w' X (.cells #[.string nm, .int .i64 a, .int .i64 b, .int .i64 u, .pointer (some ⟨g, i, none⟩)] 75) ∧ Below w.heap.size w w') (by kernel_rfl) (by kernel_rfl) (by kernel_rfl)
        (fun _ _ h hb => ⟨h.1.keep hb, h.2.trans (hb.mono h.2.size)⟩) (⟨K1.out.1.draw, K1.out.2.drew⟩) ?_
      repeat (first
        | (apply Flow.idle
           · rfl
           try simp only [Act.put, List.setIfInBounds_toArray, List.set_cons_zero, List.set_cons_succ])
        | (apply Flow.value
           · rfl
           · (intro wx hS; obtain ⟨x0, x1, x2, x3, x4, -⟩ := hS.1.five; have cc := HC.out _ hS.2; go_simp; with_reducible rfl)
           try simp only [Act.put, List.setIfInBounds_toArray, List.set_cons_zero, List.set_cons_succ]))
      refine Flow.done ?_
      intro w2 hS
      have K2 := Kp.mk hS.2
      clear hS
      go_wp2_with fail
      go_ret
      exact ⟨by rw [HF.out]; rfl, K2.out⟩
    · have b1 : decide (v < a) = false := by simp; omega
      have b2 : decide (b < v) = false := by simp; omega
      by_cases h0 : i = 0
      · obtain ⟨e1, e2⟩ := H8.out h0
        have HF : Kp (M = pw v) := ⟨by rw [HM.out, h0]; simp; omega⟩
        have HO := fun wx => ones_any v (by omega) wx
        have hw' : (nm.toList == [119, 105, 100, 116, 104]) = true := by rw [hw, h0]; rfl
        have hP : Kp (((if pw v = true then (1 : Int) else if v = 7 then 3 else 2) == 1) = pw v) := ⟨by cases hp : pw v <;> simp <;> split <;> simp⟩
        generalize (if pw v = true then (1 : Int) else if v = 7 then 3 else 2) = x at HO hP
        have hcv : IntKind.u64.wrap v = v := by simp [IntKind.wrap, IntKind.bits, IntKind.signed]; omega
        clear HM H8 hw h0 e1 e2
        go_enter Tryd.func29, Tryd.ntmps29
        go_upto_region 1 with fail
        rw [← HW1.out, ← HX.out]
        refine wp_region_flow (fun w' => Blk w' X (.cells #[.string nm, .int .i64 a, .int .i64 b, .int .i64 u, .pointer (some ⟨g, i, none⟩)] 75) ∧ Below w.heap.size w w') (by kernel_rfl) (by kernel_rfl) (by kernel_rfl)
          (fun _ _ h hb => ⟨h.1.keep hb, h.2.trans (hb.mono h.2.size)⟩) (⟨K1.out.1.draw, K1.out.2.drew⟩) ?_
        repeat (first
          | (apply Flow.idle
             · rfl
             try simp only [Act.put, List.setIfInBounds_toArray, List.set_cons_zero, List.set_cons_succ])
          | (apply Flow.value
             · rfl
             · (intro wx hS; obtain ⟨x0, x1, x2, x3, x4, -⟩ := hS.1.five; have cc := HC.out _ hS.2; go_simp; with_reducible rfl)
             try simp only [Act.put, List.setIfInBounds_toArray, List.set_cons_zero, List.set_cons_succ]))
        refine Flow.done ?_
        intro w2 hS
        have K2 := Kp.mk hS
        obtain ⟨x0, x1, x2, x3, x4, -⟩ := hS.1.five
        have hc2 := HC.out _ hS.2
        clear hS
        go_wp2_with fail
        try rw [hcv]
        refine (HO _).mono ?_
        rintro r w3 ⟨rfl, rfl⟩
        go_wp2_with fail
        go_ret
        exact ⟨by rw [HF.out, ← hP.out]; rfl, K2.out.2⟩
      · have HF : Kp (M = true) := ⟨by rw [HM.out]; simp [h0]; omega⟩
        have hw' : (nm.toList == [119, 105, 100, 116, 104]) = false := by rw [hw]; simp [h0]
        clear HM H8 hw h0
        go_enter Tryd.func29, Tryd.ntmps29
        go_upto_region 1 with fail
        rw [← HW1.out, ← HX.out]
        refine wp_region_flow (fun w' => Blk w' X (.cells #[.string nm, .int .i64 a, .int .i64 b, .int .i64 u, .pointer (some ⟨g, i, none⟩)] 75) ∧ Below w.heap.size w w') (by kernel_rfl) (by kernel_rfl) (by kernel_rfl)
          (fun _ _ h hb => ⟨h.1.keep hb, h.2.trans (hb.mono h.2.size)⟩) (⟨K1.out.1.draw, K1.out.2.drew⟩) ?_
        repeat (first
          | (apply Flow.idle
             · rfl
             try simp only [Act.put, List.setIfInBounds_toArray, List.set_cons_zero, List.set_cons_succ])
          | (apply Flow.value
             · rfl
             · (intro wx hS; obtain ⟨x0, x1, x2, x3, x4, -⟩ := hS.1.five; have cc := HC.out _ hS.2; go_simp; with_reducible rfl)
             try simp only [Act.put, List.setIfInBounds_toArray, List.set_cons_zero, List.set_cons_succ]))
        refine Flow.done ?_
        intro w2 hS
        have K2 := Kp.mk hS
        obtain ⟨x0, x1, x2, x3, x4, -⟩ := hS.1.five
        clear hS
        go_wp2_with fail
        go_ret
        exact ⟨by rw [HF.out]; rfl, K2.out.2⟩
end Go.Proofs.YtcppmkblllappaaDoor
