/-
  The document's Text.
-/
import Derived.Test.YtcppmkblllappaaDoorCfa
namespace Go.Proofs.YtcppmkblllappaaDoor
open Go.RowKit

theorem line_app (f : Nat → Int) (l : List UInt8) (i : Nat) : ((((⟨l.toArray⟩ : ByteArray) ++ nmA i) ++ ⟨#[32]⟩) ++ ⟨(Lib.itoa (f i)).toArray⟩) ++ ⟨#[10]⟩ = ⟨(l ++ (lnL f i ++ [10])).toArray⟩ := byte_ext (by unfold lnL; simp)
set_option maxRecDepth 100000 in
set_option maxHeartbeats 6400000 in
theorem rtext_any (f : Nat → Int) (hf : I64s f) (w : World) : Calls Tryd.prog 16 #[.agg (rc f).toArray] w fun e w' => e = .returned (.string (textV f)) ∧ Below w.heap.size w w' := by
  have hA := fun (w : World) => box_row (t := 40) (cs := rc f) (info40s f) w
  have HF := Kp.mk hf
  obtain ⟨B, hB⟩ : ∃ B, B = w.heap.size := ⟨_, rfl⟩
  have HB := Kp.mk hB
  obtain ⟨w1, hw1⟩ : ∃ w1, w1 = w.alloc (.cells (rc f).toArray 40) := ⟨_, rfl⟩
  have HW1 := Kp.mk hw1
  have K1 : Kp (Blk w1 B (.cells (rc f).toArray 40) ∧ Below w.heap.size w w1) := ⟨by rw [hw1]; exact Blk.newAt _ hB, by rw [hw1]; exact more (Below.refl _ _) _⟩
  clear hB hw1 hf
  go_enter Tryd.func16, Tryd.ntmps16
  go_upto_region 1 with (refine wpList_box_eq rfl 40 (.tmp 0) rfl _ rfl _ _ (hA _) ?_)
  rw [← HW1.out, ← HB.out]
  clear hA HW1
  go_wp2_with fail
  refine (rnames_any _).mono ?_
  rintro r w2 ⟨rfl, hw2⟩
  obtain ⟨S, hS⟩ : ∃ S, S = w1.heap.size := ⟨_, rfl⟩
  rw [← hS]
  have K2 : Kp (Blk w2 B (.cells (rc f).toArray 40) ∧ Blk w2 S nmObj ∧ Below w.heap.size w w2) := ⟨by rw [hw2]; exact K1.out.1.old _, by rw [hw2]; exact Blk.newAt _ hS, by rw [hw2]; exact K1.out.2.alloc K1.out.2.size _⟩
  clear hw2 hS K1
  go_wp2_with fail
  go_loopw [3, 5] (fun ct ci wr => ∃ i : Nat, i ≤ 15 ∧ ci = .int .i64 i ∧ ct = .string ⟨(txL f i 0).toArray⟩ ∧ Kp (Blk wr B (.cells (rc f).toArray 40) ∧ Blk wr S nmObj ∧ Below w.heap.size w wr)) (fun _ ci _ => 15 - (intOf ci).toNat)
  case atStart => exact ⟨0, by omega, rfl, rfl, K2⟩
  case round =>
    clear K2
    obtain ⟨i, hi, rfl, rfl, K3⟩ := hrel
    by_cases hlt : i < 15
    · have hlt' : (i : Int) < 15 := by omega
      have HLT := Kp.mk hlt
      have HC := fun wx => rwhole_any (f i) (HF.out i) wx
      have HLA := line_app f (txL f i 0) i
      have HSN : Kp (txL f i 0 ++ (lnL f i ++ [10]) = txL f (i + 1) 0) := ⟨by rw [txL_snoc, Nat.zero_add]⟩
      rw [HSN.out] at HLA
      have hl1 := tx_len f HF.out (i + 1) 0 (by omega)
      have hl2 := congrArg List.length HSN.out
      unfold lnL at hl2
      simp only [List.length_append, List.length_cons, List.length_nil] at hl2
      obtain ⟨nm, hnm⟩ : ∃ nm, nm = nmA i := ⟨_, rfl⟩
      obtain ⟨x, hx⟩ : ∃ x, x = f i := ⟨_, rfl⟩
      obtain ⟨L, hL⟩ : ∃ L, L = txL f i 0 := ⟨_, rfl⟩
      obtain ⟨M, hM⟩ : ∃ M, M = txL f (i + 1) 0 := ⟨_, rfl⟩
      have HQ : Kp (nm.size ≤ 11 ∧ (Lib.itoa x).length ≤ 21 ∧ L.length ≤ 600) := ⟨by
        have h1 := (nm_len i HLT.out).1
        have h3 := Lib.itoa_length_le (f i) (HF.out i).1 (HF.out i).2
        rw [hnm, hx, hL]
        exact ⟨by show (nmA i).data.size ≤ 11; simpa using h1, h3, by omega⟩⟩
      have HX : Kp (nm = nmA i ∧ x = f i ∧ M = txL f (i + 1) 0) := ⟨hnm, hx, hM⟩
      rw [← hnm, ← hx, ← hL, ← hM] at HLA
      rw [← hx] at HC
      rw [← hL]
      clear hl1 hl2 hnm hx hL hM HSN hlt
      go_wp2_with fail
      refine wp_region_flow (fun w' => Blk w' B (.cells (rc f).toArray 40) ∧ Blk w' S nmObj ∧ Below w.heap.size w w') (by kernel_rfl) (by kernel_rfl) (by kernel_rfl)
        (fun _ _ h hb => ⟨h.1.keep hb, h.2.1.keep hb, h.2.2.trans (hb.mono h.2.2.size)⟩) (⟨K3.out.1.draw, K3.out.2.1.draw, K3.out.2.2.drew⟩) ?_
      clear K3
      have HN0 : Kp (((⟨L.toArray⟩ : ByteArray) ++ nm).size ≤ 611 ∧ (((⟨L.toArray⟩ : ByteArray) ++ nm) ++ ⟨#[32]⟩).size ≤ 612 ∧ ((((⟨L.toArray⟩ : ByteArray) ++ nm) ++ ⟨#[32]⟩) ++ ⟨(Lib.itoa x).toArray⟩).size ≤ 633) := ⟨by
        have := HQ.out
        have e1 : (⟨L.toArray⟩ : ByteArray).size = L.length := by show L.toArray.size = _; simp
        have e2 : (⟨(Lib.itoa x).toArray⟩ : ByteArray).size = (Lib.itoa x).length := by show (Lib.itoa x).toArray.size = _; simp
        have e3 : (⟨#[32]⟩ : ByteArray).size = 1 := rfl
        simp only [ByteArray.size_append, e1, e2, e3]
        omega⟩
      repeat (first
        | (apply Flow.call
           · rfl
           · intro wx hS; go_simp; constructor <;> with_reducible rfl
           · intro wx hS; exact HC wx
           try simp only [Act.put, List.setIfInBounds_toArray, List.set_cons_zero, List.set_cons_succ])
        | (apply Flow.value
           · rfl
           · (intro wx hS
              have hc1 : wx.cell? ⟨S, i, none⟩ = some (.string nm) := by rw [HX.out.1]; exact nm_at hS.2.1 HLT.out
              have hc2 : wx.cell? ⟨B, i, none⟩ = some (.int .i64 x) := by rw [HX.out.2.1]; exact hS.1.rc HLT.out
              have hq := HQ.out
              clear hS
              go_simp; with_reducible rfl)
           try simp only [Act.put, List.setIfInBounds_toArray, List.set_cons_zero, List.set_cons_succ])
        | (apply Flow.value (v := .string ((⟨L.toArray⟩ : ByteArray) ++ nm))
           · rfl
           · (intro wx hS
              have hq := HQ.out
              clear hS
              go_simp; omega)
           try simp only [Act.put, List.setIfInBounds_toArray, List.set_cons_zero, List.set_cons_succ])
        | (apply Flow.value (v := .string (((⟨L.toArray⟩ : ByteArray) ++ nm) ++ ⟨#[32]⟩))
           · rfl
           · (intro wx hS
              have hq := HQ.out
              clear hS
              go_simp; omega)
           try simp only [Act.put, List.setIfInBounds_toArray, List.set_cons_zero, List.set_cons_succ])
        | (apply Flow.value (v := .string ((((⟨L.toArray⟩ : ByteArray) ++ nm) ++ ⟨#[32]⟩) ++ ⟨(Lib.itoa x).toArray⟩))
           · rfl
           · (intro wx hS
              have hq := HQ.out
              clear hS
              go_simp; omega)
           try simp only [Act.put, List.setIfInBounds_toArray, List.set_cons_zero, List.set_cons_succ])
        | (apply Flow.value (v := .string (((((⟨L.toArray⟩ : ByteArray) ++ nm) ++ ⟨#[32]⟩) ++ ⟨(Lib.itoa x).toArray⟩) ++ ⟨#[10]⟩))
           · rfl
           · (intro wx hS
              have hq := HQ.out
              clear hS
              go_simp; omega)
           try simp only [Act.put, List.setIfInBounds_toArray, List.set_cons_zero, List.set_cons_succ]))
      refine Flow.done ?_
      intro w4 hS
      have K4 := Kp.mk hS
      clear hS
      rw [HLA]
      go_wp2_with fail
      exact ⟨⟨i + 1, by have := HLT.out; omega, by go_num, by rw [HX.out.2.2], K4⟩, by have := HLT.out; simp [intOf]; omega⟩
    · have hi : i = 15 := by omega
      subst hi
      clear hlt
      have K4 := Kp.mk K3.out.2.2
      clear K3
      go_wp2_with fail
      go_ret
      exact ⟨rfl, K4.out⟩
end Go.Proofs.YtcppmkblllappaaDoor
