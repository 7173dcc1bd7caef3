/-
  The document's example: a body in three pieces.
-/
import Derived.Test.YtioeaknhcfkfcaaPcK
import Derived.Lib.SlBytesConst
namespace Go.Proofs.Ytioeaknhcfkfcaa
open Go.RowKit

theorem HoldsB.jstep {w w' : World} {g q q' M : Nat} {J J' : PjM} {v : Value} {l : List Int} (h : HoldsB w M v l) (hj : JIs w g q J) (hq : q = g ∨ 0 < J.ps.length) (hs : JStep g q q' J' w w') : HoldsB w' M v l := by
  obtain ⟨a, cap, h1, h2, h3, h4, h5, h6, h7⟩ := h
  refine ⟨a, cap, h1, h2, h3, h4, fun x hx h0 => ⟨(h5 x hx h0).1, (h5 x hx h0).2.1, Nat.lt_of_lt_of_le (h5 x hx h0).2.2 hs.size⟩, fun x i hx hi => ?_, h7⟩
  have hc := h6 x i hx hi
  have hg : x.block ≠ g := by
    intro e
    rw [e, cell_of_row w g (x.off + i) _ 87 (0, 0) hj.b] at hc
    exact jno ⟨J.began, J.id, pa q J.ps.length, J.ps.length, J.ps.length⟩ _ _ hc
  have hqq : x.block ≠ q := by
    rcases hq with rfl | hq
    · exact hg
    · intro e
      rw [e, cell_of_row w q (x.off + i) _ 94 (0, 0) (hj.r hq)] at hc
      exact pcells_no hj.slices _ _ hc
  exact (World.cell?_of_block (w := w) (a := ⟨x.block, x.off + i, none⟩) (hs.other _ (h5 x hx (by omega)).2.2 hg hqq)).trans hc
theorem PRow.jstep {w w' : World} {g q q' Q : Nat} {J J' : PjM} {l : List PcV} (h : PRow w Q l) (hj : JIs w g q J) (hq : q = g ∨ 0 < J.ps.length) (hs : JStep g q q' J' w w') : PRow w' Q l := by
  have hg : Q ≠ g := cells_ne h.r hj.b (by decide)
  have hqq : Q ≠ q := by
    rcases hq with rfl | hq
    · exact hg
    · exact cells_ne h.r (hj.r hq) (by decide)
  exact ⟨(hs.other Q h.r.lt hg hqq).trans h.r, fun x hx => ((h.t x hx).jstep hj hq hs).mono hs.size⟩
theorem JIs.new {w : World} {g : Nat} (h : Blk w g (jObj ⟨false, 0, none, 0, 0⟩)) : JIs w g g ⟨false, 0, []⟩ :=
  ⟨h, (fun h0 => absurd h0 (by simp)), (fun x hx => by cases hx), by simp, by simp⟩
/-- The piece k of a row, as Take wants it. -/
theorem PRow.piece {w : World} {Q : Nat} {l : List PcV} {id : Int} {m : Nat} {bl : List Int} {sz : Nat} (h : PRow w Q l) (hx : ∀ (k : Nat) (x : PcV), l[k]? = some x → x.id = id ∧ x.at_ = k ∧ x.many = m ∧ x.l = pieceL bl sz k) {k : Nat} (hk : k < l.length) :
    ∃ a c, w.rangeAt Q (k * 4) [.int .u32 id, .int .i64 k, .int .i64 m, .slice a (pieceL bl sz k).length c] ∧ HoldsB w w.heap.size (.slice a (pieceL bl sz k).length c) (pieceL bl sz k) := by
  obtain ⟨e1, e2, e3, e4⟩ := hx k l[k] (List.getElem?_eq_getElem hk)
  have ht := h.t _ (List.getElem_mem hk)
  obtain ⟨a, n, c, e5, e6⟩ := ht.slice
  have hr := h.at hk
  unfold pcc at hr
  rw [e1, e2, e3, e5, e6, e4] at hr
  rw [e5, e6, e4] at ht
  exact ⟨a, c, hr, ht⟩
theorem calls_world {P : Program} {f : FuncId} {args : Array Value} {w : World} {R : Ending → World → Prop} (F : World → Prop) (hF : F w) (h : ∀ w2, F w2 → Calls P f args w2 R) : Calls P f args w R := h w hF
def bA : List Int := [97, 98, 99, 100, 101]
theorem bA_0 : pieceL bA 2 0 = [97, 98] := by decide
theorem bA_1 : pieceL bA 2 1 = [99, 100] := by decide
theorem bA_2 : pieceL bA 2 2 = [101] := by decide
theorem bA_b : Bytes bA := by unfold Bytes bA; decide
def j1 (v : Value) : PjM := ⟨true, 1, [noPt, noPt, ⟨true, v, [101]⟩]⟩
def j2 (v u : Value) : PjM := ⟨true, 1, [⟨true, u, [97, 98]⟩, noPt, ⟨true, v, [101]⟩]⟩
theorem take1 (a : Option Addr) (c : Nat) (v : Value) : takeR ⟨false, 0, []⟩ ⟨1, 2, 3, a, 1, c⟩ [101] v = (0, false, [], j1 v) := by rfl
theorem take2 (a : Option Addr) (c : Nat) (v u : Value) : takeR (j1 v) ⟨1, 0, 3, a, 2, c⟩ [97, 98] u = (0, false, [], j2 v u) := by rfl
theorem take3 (a : Option Addr) (c : Nat) (v u z : Value) : takeR (j2 v u) ⟨1, 0, 3, a, 2, c⟩ [97, 98] z = (0, false, [], j2 v u) := by rfl
theorem take4 (a : Option Addr) (c : Nat) (v u z : Value) : takeR (j2 v u) ⟨1, 1, 3, a, 2, c⟩ [99, 100] z = (0, true, bA, ⟨true, 1, []⟩) := by rfl
theorem textA : ((strOfNums bA).toList == [97, 98, 99, 100, 101]) = true := by kernel_rfl
end Go.Proofs.Ytioeaknhcfkfcaa
