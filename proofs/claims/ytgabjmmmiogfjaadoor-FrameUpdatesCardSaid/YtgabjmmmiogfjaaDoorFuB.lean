/-
  Rows of short sums (OutC, OutD).
-/
import Derived.Test.YtgabjmmmiogfjaaDoorFuA
namespace Go.Proofs.YtgabjmmmiogfjaaDoor
open Go.RowKit

theorem box51 {p : List Int} (h : p.length = 16) (w : World) : (Instr.box 83 (sumV p)).run Tryd.prog w = .ok (.pointer (some ⟨w.heap.size, 0, none⟩)) (w.alloc (.cells (bv p).toArray 83)) := by
  have h1 := cells51 h
  cases hq : Tryd.prog.info? 83 with
  | none => simp [hq] at h1
  | some i =>
    have hi : i.size = 16 := by simpa [hq, h] using h1
    have hs : (bv p).toArray.size = 16 := by simp [h]
    unfold sumV
    simp [Instr.box, newVar, sizeOf, typeInfo, hq, hi, Value.cells, hs, h, newRow]
set_option maxHeartbeats 1600000 in
theorem sumo_any (O : Nat) (v : Value) (l p : List Int) (f : Bool) (w : World) (h : OutIs w O v l f) (hp : Bytes p) (hl : p.length = 16) (hlen : l.length ≤ 1000000000000) :
    Calls Tryd.prog 88 #[.pointer (some ⟨O, 0, none⟩), sumV p] w (LayPost O v (putL l p f) f w) := by
  have H := Lib.hid h
  have HP := Lib.hid hp
  have HB := Lib.hid (HoldsB.box w p hp (by unfold maxLen; omega) 83)
  rw [hl] at HB
  have HBX := Lib.hid (box51 hl w)
  have HL := Lib.hid hl
  clear h hp hl
  go_enter Tryd.func88, Tryd.ntmps88
  go_wp2_with (refine wpList_box_eq rfl 83 (.tmp 1) rfl (sumV p) rfl _ _ HBX.out ?_)
  refine (put_any O (w.heap.size + 1) v _ l p f _ (H.out.keep (more (Below.refl _ _) _)) HB.out (by have := HL.out; omega)).mono ?_
  rintro r w2 ⟨rfl, v2, h2⟩
  have H2 := Lib.hid (OutStep.ahead H.out (more (Below.refl _ _) _) h2)
  clear h2
  go_wp2_with fail
  go_end0
  exact ⟨rfl, v2, H2.out⟩
theorem putL_take {L S : List Int} {f : Bool} (i : Nat) : putL (putL L (S.take (i * 16)) f) (sumAt S i) f = putL L (S.take ((i + 1) * 16)) f := by
  unfold putL sumAt
  cases f
  · simp only [Bool.false_eq_true, if_false]
    rw [List.append_assoc, show (i + 1) * 16 = i * 16 + 16 by omega, List.take_add]
  · rfl
set_option maxHeartbeats 3200000 in
theorem sumso_any (O : Nat) (v s : Value) (l S : List Int) (n : Nat) (f : Bool) (w : World) (h : OutIs w O v l f) (hs : HoldsS w s n S) (hn : n ≤ 1000000) (hd : ∀ b, s.ownBlock = some b → b ≠ O ∧ v.ownBlock ≠ some b) (hlen : l.length ≤ 1000000000) :
    Calls Tryd.prog 89 #[.pointer (some ⟨O, 0, none⟩), s] w (LayPost O v (sumsL' l S n f) (sumsF' n f) w) := by
  have H := Lib.hid h
  have HS := Lib.hid hs
  have HD := Lib.hid hd
  obtain ⟨a, cap, rfl, hl, -, hb, -⟩ := hs
  have HL := Lib.hid hl
  have HBY := Lib.hid hb
  have hl1 : Hid (n ≤ 1000000 ∧ (numL l f n 1).length ≤ 1000000001) := ⟨hn, by have := numL_len l f n 1; omega⟩
  have hE : Hid (sumsL' l S n f = putL (numL l f n 1) S (numF f n 1) ∧ sumsF' n f = numF f n 1) := ⟨rfl, rfl⟩
  clear h hl hb hd
  generalize sumsL' l S n f = LL at hE ⊢
  generalize sumsF' n f = FF at hE ⊢
  go_enter Tryd.func89, Tryd.ntmps89
  go_wp2_with fail
  refine (u8o_any O v l f n _ H.out (by omega) (by omega) (by omega)).mono ?_
  rintro r w1 ⟨rfl, v1, h1⟩
  have H1 := Lib.hid h1
  clear h1
  generalize numL l f n 1 = L at H1 hE hl1
  generalize numF f n 1 = F at H1 hE
  go_wp2_with fail
  go_loopw [13] (fun c wr => ∃ (i : Nat) (vr : Value), i ≤ n ∧ c = .int .i64 i ∧ OutStep O v vr (putL L (S.take (i * 16)) F) F w wr) (fun c _ => n - (intOf c).toNat)
  case atStart => exact ⟨0, v1, by omega, rfl, by rw [Nat.zero_mul, List.take_zero, putL_nil]; exact H1.out⟩
  case round =>
    obtain ⟨i, vr, hi', rfl, hst⟩ := hrel
    have HST := Lib.hid hst
    clear hst
    by_cases hlt : i < n
    · obtain ⟨b, off, rfl, hbl, hrange⟩ := HS.out.range hlt
      have hdd := HD.out b rfl
      have HR : Hid (wr.rangeAt b (off + i * 16) (bv (sumAt S i))) := fun j u hu => (World.cell?_of_block (w := w) (a := ⟨b, off + i * 16 + j, none⟩) (HST.out.other b hbl hdd.1 hdd.2)).trans (hrange j u hu)
      have hlp := sumAt_len HL.out hlt
      have HPB := Lib.hid (sumAt_bytes HBY.out i)
      have HX := Lib.hid (putL_take (L := L) (S := S) (f := F) i)
      have HTL : Hid ((putL L (S.take (i * 16)) F).length ≤ 1000000000000) := by
        have h1 := putL_len L (S.take (i * 16)) F
        have h2 := hl1.out
        have h3 := HL.out
        rw [List.length_take] at h1
        show _ ≤ _
        omega
      generalize sumAt S i = p at HR hlp HX HPB
      have HG : Hid (((wr.alloc z16o).setRow wr.heap.size (bv p).toArray).heap[wr.heap.size]? = some (.cells (bv p).toArray 83 (0, 0))) := (Blk.new wr z16o).setRow _
      have HB2 : Hid (Below wr.heap.size wr ((wr.alloc z16o).setRow wr.heap.size (bv p).toArray)) := Below.row (more (Below.refl _ wr) z16o) (Nat.le_refl _) _
      have HC := Lib.hid (cells51 hlp)
      have HCL := Lib.hid (cellsL51 hlp)
      have HLP := Lib.hid hlp
      clear hrange hlp hbl hdd
      go_wp2_with (first
        | (refine wpList_load_mid rfl 83 (.tmp 15) rfl b (off + i * 16) rfl (bv p) _ HR.out Tryd.underlying83 rfl HCL.out ?_)
        | (refine wpList_store_row rfl 83 (.tmp 5) (.tmp 16) rfl wr.heap.size (bv p).toArray rfl rfl 83 _ (Blk.new wr z16o) HC.out (size51 HLP.out) (bv_all p) ?_)
        | (refine wpList_load_row rfl 83 (.tmp 5) rfl wr.heap.size rfl 83 (bv p).toArray (0, 0) _ HG.out Tryd.underlying83 rfl HC.out ?_))
      refine (sumo_any O vr _ p F _ (HST.out.is.keep HB2.out) HPB.out HLP.out HTL.out).mono ?_
      rintro r w4 ⟨rfl, v4, h4⟩
      have H4 := Lib.hid (HST.out.trans (OutStep.ahead HST.out.is HB2.out h4))
      clear h4
      go_wp2_with fail
      exact ⟨⟨i + 1, v4, by omega, by go_num, by have := H4.out; rw [HX.out] at this; exact this⟩, by simp [intOf]; omega⟩
    · obtain rfl : i = n := by omega
      go_wp2_with fail
      go_end0
      have h5 := HST.out
      rw [List.take_of_length_le (by have := HL.out; omega)] at h5
      exact ⟨rfl, vr, by rw [hE.out.1, hE.out.2]; exact h5⟩
end Go.Proofs.YtgabjmmmiogfjaaDoor
