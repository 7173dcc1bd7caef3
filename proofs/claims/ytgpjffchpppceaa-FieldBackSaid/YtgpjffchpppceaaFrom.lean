/-
  The contracts of From and To: rows of short sums, copied.
-/
import Derived.Test.YtgpjffchpppceaaEq
import Derived.Deep.WholeRow
namespace Go.Proofs.Ytgpjffchpppceaa
open Go.RowKit

theorem cellsL51 {l : List Int} (h : l.length = 16) : (Try.prog.info? 51).map (·.size) = some (bv l).length := by rw [List.length_map, h]; exact info51
theorem cellsL42 {l : List Int} (h : l.length = 16) : (Try.prog.info? 42).map (·.size) = some (bv l).length := by rw [List.length_map, h]; exact info42
theorem take16 (l : List Int) (i : Nat) : bv (l.take (i * 16)) ++ bv (sumAt l i) = bv (l.take ((i + 1) * 16)) := by
  unfold sumAt bv
  rw [← List.map_append, show (i + 1) * 16 = i * 16 + 16 by omega, List.take_add]

set_option maxHeartbeats 1600000 in
theorem from_any (v : Value) (n : Nat) (l : List Int) (w : World) (h : HoldsS w v n l) (hn : n ≤ 1000000) :
    Calls Try.prog 23 #[v] w fun r w' => ∃ v', r = .returned v' ∧ w'.ownsRow w.heap.size 42 16 v' n (bv l) ∧ Below w.heap.size w w' := by
  have HS := Lib.hid h
  obtain ⟨a, cap, rfl, hl, -⟩ := h
  have HL := Lib.hid hl
  obtain ⟨i0, hi, hz0, hz1, hz2⟩ := info_parts info42'
  clear hl
  go_enter Try.func23, Try.ntmps23
  go_wp2_with fail
  go_loopw [3, 8] (fun v c wr => ∃ i : Nat, i ≤ n ∧ c = .int .i64 i ∧ wr.ownsRow w.heap.size 42 16 v i (bv (l.take (i * 16))) ∧ Below w.heap.size w wr) (fun _ c _ => n - (intOf c).toNat)
  case atStart => exact ⟨0, by omega, rfl, World.ownsRow_nil _ _ _ _, Below.refl _ _⟩
  case round =>
    obtain ⟨i, hi', rfl, hrow, hE⟩ := hrel
    by_cases hlt : i < n
    · obtain ⟨b, off, rfl, hbl, hrange⟩ := (HS.out.keep hE).range hlt
      have hlp := sumAt_len HL.out hlt
      have HX := Lib.hid (take16 l i)
      generalize sumAt l i = p at hrange hlp HX
      have HR := Lib.hid hrange
      have HE := Lib.hid hE
      have HROW : Hid (((wr.alloc z16o).setRow wr.heap.size (bv p).toArray).ownsRow w.heap.size 42 16 u3 i (bv (l.take (i * 16)))) := by
        unfold Hid
        rw [World.setRow_alloc_new]
        exact hrow.alloc _
      have HG : Hid (((wr.alloc z16o).setRow wr.heap.size (bv p).toArray).heap[wr.heap.size]? = some (.cells (bv p).toArray 51 (0, 0))) := (Blk.new wr z16o).setRow _
      have HE2 : Hid (Below w.heap.size w ((wr.alloc z16o).setRow wr.heap.size (bv p).toArray)) := by
        unfold Hid
        exact Below.row (hE.alloc hE.size z16o) hE.size _
      have hbs := build43 hlp
      have HC := Lib.hid (cells51 hlp)
      have HCL := Lib.hid (cellsL51 hlp)
      have HLP := Lib.hid hlp
      generalize bv (l.take (i * 16)) = xs at HROW HX hrow
      clear hrange hrow hE hlp
      go_wp2_with (first
        | (refine wpList_load_mid rfl 51 (.tmp 10) rfl b (off + i * 16) rfl (bv p) _ HR.out Try.underlying51 rfl HCL.out ?_)
        | (refine wpList_store_row rfl 51 (.tmp 5) (.tmp 11) rfl wr.heap.size (bv p).toArray rfl rfl 51 _ (Blk.new wr z16o) HC.out (size51 HLP.out) (bv_all p) ?_)
        | (refine wpList_load_row rfl 51 (.tmp 5) rfl wr.heap.size rfl 51 (bv p).toArray (0, 0) _ HG.out Try.underlying51 rfl HC.out ?_)
        | (refine wpList_buildSlice_one rfl 43 1 (.tmp 13) rfl (sumV p) rfl _ _ (hbs _) ?_)
        | (at_builtin; refine wpList_append_own _ rfl _ _ 43 rfl w.heap.size 42 i0 _ 16 16 Try.underlying43 hi hz0 hz1 hz2 rfl (by decide) _ _ _ rfl (HROW.out.alloc _) ⟨((wr.alloc z16o).setRow wr.heap.size (bv p).toArray).heap.size, 0, none⟩ 1 1 (bv p) rfl ?c0 (row_new _ _ _) ?c2 ?c3 ?c4 ?c5 ?_))
      case c0 => rw [bv_len, HLP.out]
      case c2 => exact bv_one _
      case c3 => unfold maxLen; omega
      case c4 => omega
      case c5 => have := HE2.out.size; simp at this ⊢; omega
      · intro v' w4 hown' hgrow _
        have HO4 := Lib.hid hown'
        have HB4 := Lib.hid (below_row_grown (HE2.out.alloc HE2.out.size _) (by have := HE2.out.size; simp at this ⊢; omega) (HROW.out.alloc _) hgrow)
        clear hown' hgrow hbs
        go_wp2_with fail
        exact ⟨⟨i + 1, by omega, by go_num, by have := HO4.out; rw [HX.out] at this; exact this, HB4.out⟩, by simp [intOf]; omega⟩
    · obtain rfl : i = n := by omega
      have HROW := Lib.hid hrow
      have HE := Lib.hid hE
      clear hrow hE
      go_wp2_with fail
      go_ret
      refine ⟨_, rfl, ?_, HE.out⟩
      have := HROW.out
      rw [List.take_of_length_le (by have := HL.out; omega)] at this
      exact this
set_option maxHeartbeats 1600000 in
theorem to_any (v : Value) (n : Nat) (l : List Int) (w : World) (h : HoldsS w v n l) (hn : n ≤ 1000000) :
    Calls Try.prog 39 #[v] w fun r w' => ∃ v', r = .returned v' ∧ w'.ownsRow w.heap.size 51 16 v' n (bv l) ∧ Below w.heap.size w w' := by
  have HS := Lib.hid h
  obtain ⟨a, cap, rfl, hl, -⟩ := h
  have HL := Lib.hid hl
  obtain ⟨i0, hi, hz0, hz1, hz2⟩ := info_parts info51'
  clear hl
  go_enter Try.func39, Try.ntmps39
  go_wp2_with fail
  go_loopw [3, 8] (fun v c wr => ∃ i : Nat, i ≤ n ∧ c = .int .i64 i ∧ wr.ownsRow w.heap.size 51 16 v i (bv (l.take (i * 16))) ∧ Below w.heap.size w wr) (fun _ c _ => n - (intOf c).toNat)
  case atStart => exact ⟨0, by omega, rfl, World.ownsRow_nil _ _ _ _, Below.refl _ _⟩
  case round =>
    obtain ⟨i, hi', rfl, hrow, hE⟩ := hrel
    by_cases hlt : i < n
    · obtain ⟨b, off, rfl, hbl, hrange⟩ := (HS.out.keep hE).range hlt
      have hlp := sumAt_len HL.out hlt
      have HX := Lib.hid (take16 l i)
      generalize sumAt l i = p at hrange hlp HX
      have HR := Lib.hid hrange
      have HE := Lib.hid hE
      have HROW : Hid (((wr.alloc z16p).setRow wr.heap.size (bv p).toArray).ownsRow w.heap.size 51 16 u3 i (bv (l.take (i * 16)))) := by
        unfold Hid
        rw [World.setRow_alloc_new]
        exact hrow.alloc _
      have HG : Hid (((wr.alloc z16p).setRow wr.heap.size (bv p).toArray).heap[wr.heap.size]? = some (.cells (bv p).toArray 42 (0, 0))) := (Blk.new wr z16p).setRow _
      have HE2 : Hid (Below w.heap.size w ((wr.alloc z16p).setRow wr.heap.size (bv p).toArray)) := by
        unfold Hid
        exact Below.row (hE.alloc hE.size z16p) hE.size _
      have hbs := build55 hlp
      have HC := Lib.hid (cells42 hlp)
      have HCL := Lib.hid (cellsL42 hlp)
      have HLP := Lib.hid hlp
      generalize bv (l.take (i * 16)) = xs at HROW HX hrow
      clear hrange hrow hE hlp
      go_wp2_with (first
        | (refine wpList_load_mid rfl 42 (.tmp 10) rfl b (off + i * 16) rfl (bv p) _ HR.out Try.underlying42 rfl HCL.out ?_)
        | (refine wpList_store_row rfl 42 (.tmp 5) (.tmp 11) rfl wr.heap.size (bv p).toArray rfl rfl 42 _ (Blk.new wr z16p) HC.out (size51 HLP.out) (bv_all p) ?_)
        | (refine wpList_load_row rfl 42 (.tmp 5) rfl wr.heap.size rfl 42 (bv p).toArray (0, 0) _ HG.out Try.underlying42 rfl HC.out ?_)
        | (refine wpList_buildSlice_one rfl 55 1 (.tmp 13) rfl (sumV p) rfl _ _ (hbs _) ?_)
        | (at_builtin; refine wpList_append_own _ rfl _ _ 55 rfl w.heap.size 51 i0 _ 16 16 Try.underlying55 hi hz0 hz1 hz2 rfl (by decide) _ _ _ rfl (HROW.out.alloc _) ⟨((wr.alloc z16p).setRow wr.heap.size (bv p).toArray).heap.size, 0, none⟩ 1 1 (bv p) rfl ?c0 (row_new _ _ _) ?c2 ?c3 ?c4 ?c5 ?_))
      case c0 => rw [bv_len, HLP.out]
      case c2 => exact bv_one _
      case c3 => unfold maxLen; omega
      case c4 => omega
      case c5 => have := HE2.out.size; simp at this ⊢; omega
      · intro v' w4 hown' hgrow _
        have HO4 := Lib.hid hown'
        have HB4 := Lib.hid (below_row_grown (HE2.out.alloc HE2.out.size _) (by have := HE2.out.size; simp at this ⊢; omega) (HROW.out.alloc _) hgrow)
        clear hown' hgrow hbs
        go_wp2_with fail
        exact ⟨⟨i + 1, by omega, by go_num, by have := HO4.out; rw [HX.out] at this; exact this, HB4.out⟩, by simp [intOf]; omega⟩
    · obtain rfl : i = n := by omega
      have HROW := Lib.hid hrow
      have HE := Lib.hid hE
      clear hrow hE
      go_wp2_with fail
      go_ret
      refine ⟨_, rfl, ?_, HE.out⟩
      have := HROW.out
      rw [List.take_of_length_le (by have := HL.out; omega)] at this
      exact this
end Go.Proofs.Ytgpjffchpppceaa
