/-
  The document's Next, SameInts.
-/
import Derived.Test.YtfnjfoconklhiaaStS
namespace Go.Proofs.Ytfnjfoconklhiaa
open Go.RowKit

theorem nextL_add (p : PS) (l : List Nat) (d : Nat) : nextL p (l ++ [d]) = min (nextL p l) (setT p (p.all d)) := by
  unfold nextL
  rw [List.foldl_append]
  rfl
set_option maxRecDepth 100000 in
set_option maxHeartbeats 6400000 in
theorem rnext_any (p : PS) (w : World) (hp : p.Ok) : Calls Try.prog 19 #[.agg (prc p).toArray] w fun r w' => r = .returned (.int .i64 p.next) ∧ Below w.heap.size w w' := by
  have hC := fun (w : World) => box_row (t := 40) (cs := prc p) (info40s p) w
  obtain ⟨A, hA⟩ : ∃ A, A = w.heap.size := ⟨_, rfl⟩
  have HA := Kp.mk hA
  have HB : Kp (Blk (w.alloc p.robj) A p.robj ∧ Below A w (w.alloc p.robj) ∧ A ≤ (w.alloc p.robj).heap.size) := ⟨Blk.newAt _ hA, by rw [hA]; exact more (Below.refl _ _) _, Nat.le_of_lt (Blk.newAt _ hA).lt⟩
  have HP := Kp.mk hp
  have hr : 1 ≤ p.period ∧ p.period ≤ 1048576 ∧ 0 ≤ p.settle ∧ p.settle ≤ 1048576 := by have := hp.right; simpa [rtB] using this
  have HS0 : Kp (IntKind.i64.wrap (p.told + p.period) = p.told + p.period) := ⟨sum_in hp.told (by omega)⟩
  have HSF : Kp (∀ d, d < 8 → IntKind.i64.wrap ((p.all d).first + p.settle) = (p.all d).first + p.settle) := ⟨fun d hd => sum_in (hp.first d hd) hr.2.2⟩
  clear hr hp
  cases he : p.ever with
  | false =>
    have HX : Kp (p.next = 0) := ⟨by simp [PS.next, he]⟩
    have p2 : (w.alloc p.robj).cell? ⟨w.heap.size, 2, none⟩ = some (.bool false) := by rw [← hA]; exact (HB.out.1.cell 2).trans (by rw [← he]; rfl)
    clear he hA
    go_enter Try.func19, Try.ntmps19
    go_wp2_with (refine wpList_box_eq rfl 40 (.tmp 0) rfl _ rfl _ _ (hC _) ?_)
    go_ret
    exact ⟨reti HX.out.symm, by rw [← HA.out]; exact HB.out.2.1⟩
  | true =>
    have HX : Kp (p.next = nextL p (those p (fun n => n.waits) 8)) := ⟨by simp [PS.next, he, nextL]⟩
    have p2 : (w.alloc p.robj).cell? ⟨w.heap.size, 2, none⟩ = some (.bool true) := by rw [← hA]; exact (HB.out.1.cell 2).trans (by rw [← he]; rfl)
    have p3 : (w.alloc p.robj).cell? ⟨w.heap.size, 3, none⟩ = some (.int .i64 p.told) := by rw [← hA]; exact HB.out.1.cell 3
    have p0 : (w.alloc p.robj).cell? ⟨w.heap.size, 0, none⟩ = some (.int .i64 p.period) := by rw [← hA]; exact HB.out.1.cell 0
    have hs0 := HS0.out
    have hs0' : wrap64 (p.told + p.period) = p.told + p.period := by rw [← IntWalk.i64_left]; exact hs0
    clear he hA
    go_enter Try.func19, Try.ntmps19
    go_wp2_with (refine wpList_box_eq rfl 40 (.tmp 0) rfl _ rfl _ _ (hC _) ?_)
    rw [← HA.out]
    clear p2 p3 p0 hs0 hs0' hC
    go_loopw [3, 4] (fun at_ ct wr => ∃ d : Nat, d ≤ 8 ∧ ct = .int .i64 d ∧ at_ = .int .i64 (nextL p (those p (fun n => n.waits) d)) ∧ Kp (Blk wr A p.robj ∧ Below A w wr ∧ A ≤ wr.heap.size)) (fun _ ct _ => 8 - (intOf ct).toNat)
    case atStart => exact ⟨0, by omega, rfl, rfl, HB⟩
    case round =>
      obtain ⟨d, hd8, rfl, rfl, K0⟩ := hrel
      by_cases hlt : d < 8
      · have HD8 := Kp.mk hlt
        have hlt' : (d : Int) < 8 := by omega
        have HRA : Kp (wr.rangeAt A (4 + d * 7) (nrc (p.all d))) := ⟨rnw_range K0.out.1 hlt⟩
        have HYN := Kp.mk (And.intro (those_yes (p := p) (q := fun n => n.waits) (i := d)) (those_no (p := p) (q := fun n => n.waits) (i := d)))
        have HNA := Kp.mk (nextL_add p (those p (fun n => n.waits) d) d)
        have hsf := HSF.out d hlt
        obtain ⟨n, hn⟩ : ∃ n, n = p.all d := ⟨_, rfl⟩
        rw [← hn] at HRA HYN hsf HNA
        have hsf' : wrap64 (n.first + p.settle) = n.first + p.settle := by rw [← IntWalk.i64_left]; exact hsf
        clear hn
        go_upto_region 8 with (first
          | (refine wpList_load_mid rfl 37 (.tmp 22) rfl A (4 + d * 7) rfl (nrc n) _ HRA.out Try.underlying37 rfl (by kernel_rfl) ?_)
          | (refine wpList_store_row rfl 37 (.tmp 5) (.tmp 23) rfl wr.heap.size (nrc n).toArray rfl rfl 37 _ (Blk.newAt _ rfl) (info37s n) rfl (all_oneCell_toArray (nrc_one n)) ?_
             rw [World.setRow_alloc_new]
             refine wpl_world (fun W => (Blk W A p.robj ∧ Below A w W ∧ A ≤ W.heap.size) ∧ Blk W wr.heap.size (.cells (nrc n).toArray 37)) ⟨⟨K0.out.1.old _, K0.out.2.1.alloc K0.out.2.2 _, by have := K0.out.2.2; simp; omega⟩, Blk.new _ _⟩ ?_
             intro W2 hW2
             have H2 := Kp.mk hW2
             have m4 : W2.cell? ⟨wr.heap.size, 4, none⟩ = some (.bool n.waits) := hW2.2.cell 4
             have m5 : W2.cell? ⟨wr.heap.size, 5, none⟩ = some (.bool n.urgent) := hW2.2.cell 5
             have m6 : W2.cell? ⟨wr.heap.size, 6, none⟩ = some (.int .i64 n.first) := hW2.2.cell 6
             have a1 : W2.cell? ⟨A, 1, none⟩ = some (.int .i64 p.settle) := hW2.1.1.cell 1
             clear hW2))
        obtain ⟨x, hx⟩ : ∃ x, x = nextL p (those p (fun n => n.waits) d) := ⟨_, rfl⟩
        have HXK := Kp.mk hx
        rw [← hx] at HNA ⊢
        clear hx
        cases hw : n.waits with
        | false =>
          rw [hw] at m4
          have HN := Kp.mk (HYN.out.2 hw)
          clear hw
          go_wp2_with fail
          exact ⟨⟨d + 1, by omega, by go_num, by rw [HN.out, ← HXK.out], ⟨H2.out.1⟩⟩, by simp [intOf]; omega⟩
        | true =>
          rw [hw] at m4
          have HN := Kp.mk (HYN.out.1 hw)
          clear hw
          cases hu : n.urgent with
          | false =>
            rw [hu] at m5
            have HT : Kp (setT p n = n.first + p.settle) := ⟨by simp [setT, hu]⟩
            clear hu
            go_wp2_with fail
            all_goals exact ⟨⟨d + 1, by omega, by go_num, by rw [HN.out, HNA.out, HT.out]; congr 1; omega, ⟨H2.out.1⟩⟩, by simp [intOf]; omega⟩
          | true =>
            rw [hu] at m5
            have HT : Kp (setT p n = 0) := ⟨by simp [setT, hu]⟩
            clear hu
            go_wp2_with fail
            all_goals exact ⟨⟨d + 1, by omega, by go_num, by rw [HN.out, HNA.out, HT.out]; congr 1; omega, ⟨H2.out.1⟩⟩, by simp [intOf]; omega⟩
      · obtain rfl : d = 8 := by omega
        go_wp2_with fail
        go_ret
        exact ⟨reti HX.out.symm, by rw [← HA.out]; exact K0.out.2.1⟩
theorem drewN_two (w : World) (a b : Nat) : (w.drewN a).drewN b = w.drewN (a + b) := by
  simp [World.drewN, Nat.add_assoc]
set_option maxRecDepth 100000 in
set_option maxHeartbeats 3200000 in
theorem same_any (l : List Nat) (B1 B2 : Nat) (v1 v2 : Value) (w : World) (h1 : w.ownsRow B1 3 1 v1 l.length (nv l)) (h2 : w.ownsRow B2 3 1 v2 l.length (nv l)) (hl : l.length ≤ 8) :
    Calls Try.prog 16 #[v1, v2] w fun r w' => r = .returned (.bool true) ∧ ∃ m, w' = w.drewN m := by
  obtain ⟨a1, c1, rfl, e1⟩ := row_slice h1
  obtain ⟨a2, c2, rfl, e2⟩ := row_slice h2
  have E1 := Kp.mk e1
  have E2 := Kp.mk e2
  obtain ⟨n, hn⟩ : ∃ n, n = l.length := ⟨_, rfl⟩
  have HN := Kp.mk hn
  rw [← hn] at hl ⊢
  clear h1 h2 e1 e2 hn
  go_enter Try.func16, Try.ntmps16
  go_wp2_with fail
  go_loopw [5] (fun ct wr => ∃ k : Nat, k ≤ n ∧ ct = .int .i64 k ∧ Kp (∃ m, wr = w.drewN m)) (fun ct _ => n - (intOf ct).toNat)
  case atStart => exact ⟨0, by omega, rfl, ⟨0, rfl⟩⟩
  case round =>
    obtain ⟨k, hk, rfl, K0⟩ := hrel
    by_cases hlt : k < n
    · have hlt' : (k : Int) < (n : Int) := by omega
      obtain ⟨m, hm⟩ := K0.out
      obtain ⟨g1, rfl, q1⟩ := E1.out k (by rw [← HN.out]; exact hlt)
      obtain ⟨g2, rfl, q2⟩ := E2.out k (by rw [← HN.out]; exact hlt)
      have q1' : wr.cell? ⟨g1, k, none⟩ = some (.int .i64 (l.getD k 0 : Nat)) := by rw [hm]; exact q1
      have q2' : wr.cell? ⟨g2, k, none⟩ = some (.int .i64 (l.getD k 0 : Nat)) := by rw [hm]; exact q2
      have HM := Kp.mk hm
      clear q1 q2 hm K0
      generalize l.getD k 0 = d at *
      go_wp2_with fail
      go_quiet (fail)
      go_wp2_with fail
      exact ⟨⟨k + 1, by omega, by go_num, by rw [HM.out]; exact ⟨⟨m + nq, drewN_two _ _ _⟩⟩⟩, by simp [intOf]; omega⟩
    · obtain rfl : k = n := by omega
      go_wp2_with fail
      go_ret
      exact ⟨rfl, K0.out⟩
end Go.Proofs.Ytfnjfoconklhiaa
