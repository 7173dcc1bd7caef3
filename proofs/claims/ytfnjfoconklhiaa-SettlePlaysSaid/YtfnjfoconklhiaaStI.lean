/-
  Plan.Next.
-/
import Derived.Test.YtfnjfoconklhiaaStK
namespace Go.Proofs.Ytfnjfoconklhiaa
open Go.RowKit

theorem nw_range {p : PS} {d b : Nat} {w : World} (h : Blk w b p.obj) (hd : d < 8) : w.rangeAt b (4 + d * 7) (nwc (p.all d)) := fun j v hv => by
  have hj : j < 7 := (List.getElem?_eq_some_iff.1 hv).1
  rw [h.cell (4 + d * 7 + j), List.getElem?_toArray, pcs_at p hd hj]
  exact hv
def nextL (p : PS) (l : List Nat) : Int := l.foldl (fun x d => min x (setT p (p.all d))) (p.told + p.period)
theorem nextL_more (p : PS) (l : List Nat) {k : Nat} (h : k < l.length) : nextL p (l.take (k + 1)) = min (nextL p (l.take k)) (setT p (p.all (l.getD k 0))) := by
  have e : l.take (k + 1) = l.take k ++ [l.getD k 0] := by
    rw [List.take_add_one, List.getElem?_eq_getElem h, List.getD_eq_getElem?_getD, List.getElem?_eq_getElem h]
    rfl
  rw [e]
  unfold nextL
  rw [List.foldl_append]
  rfl
set_option maxRecDepth 100000 in
set_option maxHeartbeats 3200000 in
theorem next_any (p : PS) (b : Nat) (w : World) (h : Blk w b p.obj) (hp : p.Ok) : Calls Try.prog 17 #[.pointer (some ⟨b, 0, none⟩)] w fun r w' => r = .returned (.tuple #[.int .i64 p.next, .bool true]) ∧ Below w.heap.size w w' := by
  have HB := Kp.mk h
  have HP := Kp.mk hp
  have hr : 1 ≤ p.period ∧ p.period ≤ 1048576 ∧ 0 ≤ p.settle ∧ p.settle ≤ 1048576 := by have := hp.right; simpa [rtB] using this
  have HRS := Kp.mk hr.2.2
  have HS0 : Kp (IntKind.i64.wrap (p.told + p.period) = p.told + p.period) := ⟨sum_in hp.told (by omega)⟩
  clear hr hp
  cases he : p.ever with
  | false =>
    have HX : Kp (p.next = 0) := ⟨by simp [PS.next, he]⟩
    have p2 : w.cell? ⟨b, 2, none⟩ = some (.bool false) := (h.cell 2).trans (by rw [← he]; rfl)
    clear h he
    go_enter Try.func17, Try.ntmps17
    go_wp2_with fail
    go_ret2
    exact ⟨by rw [HX.out]; rfl, Below.refl _ _⟩
  | true =>
    have HX : Kp (p.next = nextL p (those p (fun n => n.waits) 8)) := ⟨by simp [PS.next, he, nextL]⟩
    have p2 : w.cell? ⟨b, 2, none⟩ = some (.bool true) := (h.cell 2).trans (by rw [← he]; rfl)
    have HV : ∀ wx, Blk wx b p.obj → wx.cell? ⟨b, 3, none⟩ = some (.int .i64 p.told) ∧ wx.cell? ⟨b, 0, none⟩ = some (.int .i64 p.period) := fun wx hx => ⟨hx.cell 3, hx.cell 0⟩
    clear h he
    go_enter Try.func17, Try.ntmps17
    go_wp2_with fail
    have HS1 := HS0.out
    clear p2
    refine wp_region_flow (fun w' => Blk w' b p.obj ∧ Below w.heap.size w w' ∧ w.heap.size ≤ w'.heap.size) (by kernel_rfl) (by kernel_rfl) (by kernel_rfl)
      (fun _ _ h hb => ⟨h.1.keep hb, h.2.1.trans (hb.mono h.2.2), Nat.le_trans h.2.2 hb.size⟩) (⟨HB.out.draw, Below.drew (Below.refl _ _), Nat.le_refl _⟩) ?_
    repeat (first
      | (apply Flow.value
         · rfl
         · (intro wx hS; obtain ⟨v1, v2⟩ := HV wx hS.1; go_simp; with_reducible rfl)
         try simp only [Act.put, List.setIfInBounds_toArray, List.set_cons_zero, List.set_cons_succ]))
    refine Flow.done ?_
    intro w1 hS
    have K1 := Kp.mk hS
    clear hS HV HS1
    go_wp2_with fail
    refine (waits_any p b _ K1.out.1).mono ?_
    rintro r w2 ⟨v, rfl, ho, hb⟩
    obtain ⟨a, c, rfl, -⟩ := row_slice ho
    have K2 : Kp (Blk w2 b p.obj ∧ Below w.heap.size w w2 ∧ w.heap.size ≤ w2.heap.size) := ⟨K1.out.1.keep hb, K1.out.2.1.trans (hb.mono K1.out.2.2), Nat.le_trans K1.out.2.2 hb.size⟩
    have O2 : Kp (w2.ownsRow w.heap.size 3 1 (.slice a (those p (fun n => n.waits) 8).length c) (those p (fun n => n.waits) 8).length (nv (those p (fun n => n.waits) 8))) := ⟨ownsRow_base ho K1.out.2.2⟩
    have HL : Kp (∀ x ∈ those p (fun n => n.waits) 8, x < 8) := ⟨fun x hx => (those_mem.1 hx).1⟩
    have HN8 := Kp.mk (those_len p (fun n => n.waits) 8)
    clear ho hb K1
    generalize those p (fun n => n.waits) 8 = l at *
    obtain ⟨n, hn⟩ : ∃ n, n = l.length := ⟨_, rfl⟩
    have HN := Kp.mk hn
    rw [← hn] at O2 HN8 ⊢
    have hn8 := HN8.out
    clear hn
    go_wp2_with fail
    go_loopw [4, 27] (fun mn ct wr => ∃ k : Nat, k ≤ n ∧ ct = .int .i64 k ∧ mn = .int .i64 (nextL p (l.take k)) ∧ Kp (Blk wr b p.obj ∧ Below w.heap.size w wr ∧ w.heap.size ≤ wr.heap.size) ∧ Kp (wr.ownsRow w.heap.size 3 1 (.slice a n c) n (nv l))) (fun _ ct _ => n - (intOf ct).toNat)
    case atStart => exact ⟨0, by omega, rfl, rfl, K2, O2⟩
    case round =>
      obtain ⟨k, hk, rfl, rfl, K3, O3⟩ := hrel
      by_cases hlt : k < n
      · have hlt' : (k : Int) < (n : Int) := by omega
        have hkl : k < l.length := by have := HN.out; omega
        obtain ⟨a', c', e1, e2⟩ := row_slice (l := l) (by rw [← HN.out]; exact O3.out)
        simp only [Value.slice.injEq] at e1
        obtain ⟨rfl, -, rfl⟩ := e1
        obtain ⟨g, rfl, hc⟩ := e2 k hkl
        have hd : l.getD k 0 < 8 := by
          rw [List.getD_eq_getElem?_getD, List.getElem?_eq_getElem hkl]
          exact HL.out _ (List.getElem_mem hkl)
        have HM := Kp.mk (nextL_more p l hkl)
        clear hkl e2
        generalize nextL p (l.take k) = x at *
        generalize l.getD k 0 = d at *
        have hd0 : (d : Int) < 8 := by omega
        have HD := Kp.mk hd
        have HCS := fun w1 => settled_any p (p.all d) w1 (HP.out.first d HD.out) HRS.out
        go_wp2_with fail
        refine wp_region_flow_vars (fun w' => Blk w' b p.obj ∧ Below wr.heap.size wr w') [0, 1, 2, 3, 4, 5, 6, 7, 8, 9, 10, 11, 12] [] [13] (fun _ => .cells #[] 0) (by kernel_rfl) (by kernel_rfl) (by kernel_rfl) (by decide)
          (fun _ _ h hb => ⟨h.1.keep (Below.mono hb (Nat.le_refl _)), h.2.trans (Below.mono hb h.2.size)⟩)
          ⟨K3.out.1.draw, Below.drew (Below.refl _ _)⟩ (by simp) (by decide) ?_
        refine flowN_sel _ _ (by decide) ?_
        simp only [sel, List.filterMap_cons, List.filterMap_nil, List.getElem?_toArray, List.getElem?_cons_succ, List.getElem?_cons_zero]
        repeat (first
          | (apply Flow.value
             · rfl
             · (intro wx hS; exact exec_load_mid (cs := nwc (p.all d)) rfl rfl (nw_range hS.1 HD.out) Try.underlying69 rfl (by kernel_rfl))
             try simp only [Act.put, List.setIfInBounds_toArray, List.set_cons_zero, List.set_cons_succ])
          | (apply Flow.value
             · rfl
             · (intro wx hS; exact exec_load_mid (cs := [.int .i64 p.period, .int .i64 p.settle]) rfl rfl (hS.1.range (o := 0) rfl) Try.underlying25 rfl (by kernel_rfl))
             try simp only [Act.put, List.setIfInBounds_toArray, List.set_cons_zero, List.set_cons_succ])
          | (apply Flow.value
             · rfl
             · (intro wx hS; go_simp; with_reducible rfl)
             try simp only [Act.put, List.setIfInBounds_toArray, List.set_cons_zero, List.set_cons_succ])
          | (apply Flow.call
             · rfl
             · intro wx hS; go_simp; constructor <;> with_reducible rfl
             · intro wx hS; exact HCS wx
             try simp only [Act.put, List.setIfInBounds_toArray, List.set_cons_zero, List.set_cons_succ]))
        refine Flow.done ?_
        intro γ w4 hS hk hg
        simp only [putNew]
        have K4 : Kp (Blk w4 b p.obj ∧ Below w.heap.size w w4 ∧ w.heap.size ≤ w4.heap.size) := ⟨hS.1, K3.out.2.1.trans (hS.2.mono K3.out.2.2), Nat.le_trans K3.out.2.2 hS.2.size⟩
        have O4 := Kp.mk (ownsRow_below O3.out hS.2)
        clear hS hk hg hc HCS
        refine wpOps_step rfl (by rfl) ?_
        go_simp
        refine wpOps_done ?_
        go_wp2_with fail
        exact ⟨⟨k + 1, by omega, by go_num, by rw [HM.out]; congr 1; (first | omega | (split <;> omega)), K4, O4⟩, by simp [intOf]; omega⟩
      · obtain rfl : k = n := by omega
        have HXX : Kp (l.take k = l) := ⟨List.take_of_length_le (by have := HN.out; omega)⟩
        have HE : Kp (p.next = nextL p (l.take k)) := ⟨by rw [HXX.out]; exact HX.out⟩
        go_wp2_with fail
        go_ret2
        exact ⟨by rw [HE.out]; rfl, K3.out.2.1⟩
end Go.Proofs.Ytfnjfoconklhiaa
