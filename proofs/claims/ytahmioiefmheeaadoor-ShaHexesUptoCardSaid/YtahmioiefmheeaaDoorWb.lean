/-
  (*strings.Builder).WriteByte, of a builder that has grown.
-/
import Derived.Test.YtahmioiefmheeaaDoorArr
import Derived.Lib.Builder
namespace Go.Proofs.YtahmioiefmheeaaDoor
open Go.RowKit

theorem info5i : (Tryd.prog.info? 5).map (fun i => (i.zero, i.size, i.bytes)) = some (some (.int .u8 0), 1, 1) := info5
abbrev Bd (B b : Nat) (bs : List Value) (w : World) : Prop := Lib.BuilderAt 112 5 B b (.pointer (some ⟨b, 0, none⟩)) bs w
theorem Bd.cell1 {B b : Nat} {bs : List Value} {w : World} (h : Bd B b bs w) : ∃ v, w.cell? ⟨b, 1, none⟩ = some v ∧ w.frozen? ⟨b, 1, none⟩ = false ∧ w.ownsRow B 5 1 v bs.length bs ∧ v.ownBlock ≠ some b := by
  obtain ⟨_, v, hb, ho, hn⟩ := h
  exact ⟨v, Lib.cell_of_heap hb 1, Lib.frozen_of_heap hb 1, ho, hn⟩
set_option maxRecDepth 100000 in
set_option maxHeartbeats 400000 in
theorem copyCheck_used (B b : Nat) (bs : List Value) (w : World) (h : Bd B b bs w) : Calls Tryd.prog 105 #[.pointer (some ⟨b, 0, none⟩)] w fun r w' => r = .returned (.tuple #[]) ∧ w' = w := by
  have c0 := Lib.BuilderAt.cell0 h
  have hj : (Tryd.prog.info? 112).isSome = true := by kernel_rfl
  obtain ⟨j, hj⟩ := Option.isSome_iff_exists.1 hj
  have hq : ∀ w, (binOp .neq 110 (.pointer (some ⟨b, 0, none⟩)) (.pointer (some ⟨b, 0, none⟩))).run Tryd.prog w = .ok (.bool false) w := fun w => Lib.run_neq_ptr_same w ⟨b, 0, none⟩ Tryd.underlying110 hj
  clear h hj
  go_enter Tryd.func105, Tryd.ntmps105
  go_wp2_with fail
  go_end0
  exact ⟨rfl, rfl⟩
set_option maxRecDepth 100000 in
set_option maxHeartbeats 400000 in
theorem writeByte (B b : Nat) (bs : List Value) (c : Int) (w : World) (h : Bd B b bs w) (hl : bs.length + 1 ≤ 140737488355328) (hB : B ≤ w.heap.size) :
    Calls Tryd.prog 79 #[.pointer (some ⟨b, 0, none⟩), .int .u8 c] w fun r w' => r = .returned .nilIface ∧ Bd B b (bs ++ [.int .u8 c]) w' ∧ Below B w w' := by
  obtain ⟨i0, hi, hz0, hz1, hz2⟩ := info_parts info5
  have H := Lib.hid h
  have h' := h
  obtain ⟨hBb, v, hb, ho, hn⟩ := h'
  have c1 : w.cell? ⟨b, 1, none⟩ = some v := Lib.cell_of_heap hb 1
  have f1 := Lib.frozen_of_heap hb 1
  have HBb := Lib.hid hBb
  have Hb : Hid (Blk w b (.cells #[.pointer (some ⟨b, 0, none⟩), v] 112)) := hb
  have HO := Lib.hid ho
  have HN := Lib.hid hn
  have HL := Lib.hid hl
  have HBw := Lib.hid hB
  have HLt : Hid (b < w.heap.size) := Lib.BuilderAt.lt h
  clear ho hn hl hB h hBb hb
  go_enter Tryd.func79, Tryd.ntmps79
  go_wp2_with fail
  refine (copyCheck_used B b bs w H.out).mono ?_
  rintro r w1 ⟨rfl, rfl⟩
  go_wp2_with (at_builtin; refine wpList_append_own _ rfl _ _ 22 rfl B 5 i0 (.int .u8 0) 1 1 Tryd.underlying22 hi hz0 hz1 hz2 rfl (by decide) _ _ _ rfl (HO.out.alloc _) ⟨w1.heap.size, 0, none⟩ 1 1 [.int .u8 c] rfl rfl ?c1 ?c2 ?c3 ?c4 ?c5 ?_)
  case c1 =>
    intro j u hu
    match j with
    | 0 =>
      simp at hu
      subst hu
      exact (Blk.cell (Blk.new w1 (.cells #[.int .u8 c] 5)) 0)
    | j + 1 => simp at hu
  case c2 => intro u hu; simp at hu; subst hu; rfl
  case c3 => have := HL.out; unfold maxLen; omega
  case c4 => have := HL.out; omega
  case c5 => have := HBw.out; simp; omega
  intro v' w3 ho' hg _
  have HO' := Lib.hid ho'
  have hb3 : w3.heap[b]? = w1.heap[b]? := by
    rw [hg.block b (by simp; have := HLt.out; omega) (fun e => HN.out e.symm)]
    exact (more (Below.refl w1.heap.size w1) _).block b HLt.out
  have Hb3 : Hid (Blk w3 b (.cells #[.pointer (some ⟨b, 0, none⟩), v] 112)) := hb3.trans Hb.out
  have HBel : Hid (Below B w1 w3) := by
    have h1 : Below B w1 (w1.alloc (.cells #[.int .u8 c] 5)) := (Below.refl _ _).alloc HBw.out _
    exact below_row_grown h1 (by simp; have := HBw.out; omega) (HO.out.alloc _) hg
  have c3 : w3.cell? ⟨b, 1, none⟩ = some v := (Hb3.out.cell 1).trans rfl
  have f3 : w3.frozen? ⟨b, 1, none⟩ = false := Hb3.out.frozen 1
  obtain ⟨g, cap, rfl⟩ : ∃ g cap, v' = .slice (some ⟨g, 0, none⟩) (bs.length + 1) cap := by
    rcases ho'.2 with ⟨_, hn⟩ | ⟨g, cap, cur, hv, _⟩
    · omega
    · exact ⟨g, cap, hv⟩
  clear ho' hg hb3 c1 f1
  go_wp2_with fail
  go_ret
  refine ⟨rfl, ?_, HBel.out.setCell HBb.out _⟩
  exact Lib.BuilderAt.put HBb.out Hb3.out (by have h := HO'.out; simpa using h) (by decide)
end Go.Proofs.YtahmioiefmheeaaDoor
