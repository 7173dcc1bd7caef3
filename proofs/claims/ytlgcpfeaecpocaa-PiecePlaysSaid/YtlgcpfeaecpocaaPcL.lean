/-
  The document's example: a body in three pieces.
-/
import Derived.Test.YtlgcpfeaecpocaaPcK
import Derived.Lib.SlBytesConst
namespace Go.Proofs.Ytlgcpfeaecpocaa
open Go.RowKit

theorem HoldsB.jstep {w w' : World} {g q q' M : Nat} {J J' : PjM} {v : Value} {l : List Int} (h : HoldsB w M v l) (hj : JIs w g q J) (hq : q = g ∨ 0 < J.ps.length) (hs : JStep g q q' J' w w') : HoldsB w' M v l := by
  obtain ⟨a, cap, h1, h2, h3, h4, h5, h6, h7⟩ := h
  refine ⟨a, cap, h1, h2, h3, h4, fun x hx h0 => ⟨(h5 x hx h0).1, (h5 x hx h0).2.1, Nat.lt_of_lt_of_le (h5 x hx h0).2.2 hs.size⟩, fun x i hx hi => ?_, h7⟩
  have hc := h6 x i hx hi
  have hg : x.block ≠ g := by
    intro e
    rw [e, cell_of_row w g (x.off + i) _ 87 (0, 0) hj.b] at hc
    exact jno ⟨J.began, J.id, pa q J.ps.length, J.ps.length, J.ps.length⟩ _ _ hc
  have hqq : x.block ≠ q := by
    rcases hq with rfl | hq
    · exact hg
    · intro e
      rw [e, cell_of_row w q (x.off + i) _ 94 (0, 0) (hj.r hq)] at hc
      exact pcells_no hj.slices _ _ hc
  exact (World.cell?_of_block (w := w) (a := ⟨x.block, x.off + i, none⟩) (hs.other _ (h5 x hx (by omega)).2.2 hg hqq)).trans hc
theorem PRow.jstep {w w' : World} {g q q' Q : Nat} {J J' : PjM} {l : List PcV} (h : PRow w Q l) (hj : JIs w g q J) (hq : q = g ∨ 0 < J.ps.length) (hs : JStep g q q' J' w w') : PRow w' Q l := by
  have hg : Q ≠ g := cells_ne h.r hj.b (by decide)
  have hqq : Q ≠ q := by
    rcases hq with rfl | hq
    · exact hg
    · exact cells_ne h.r (hj.r hq) (by decide)
  exact ⟨(hs.other Q h.r.lt hg hqq).trans h.r, fun x hx => ((h.t x hx).jstep hj hq hs).mono hs.size⟩
theorem JIs.new {w : World} {g : Nat} (h : Blk w g (jObj ⟨false, 0, none, 0, 0⟩)) : JIs w g g ⟨false, 0, []⟩ :=
  ⟨h, (fun h0 => absurd h0 (by simp)), (fun x hx => by cases hx), by simp, by simp⟩
/-- The piece k of a row, as Take wants it. -/
theorem PRow.piece {w : World} {Q : Nat} {l : List PcV} {id : Int} {m : Nat} {bl : List Int} {sz : Nat} (h : PRow w Q l) (hx : ∀ (k : Nat) (x : PcV), l[k]? = some x → x.id = id ∧ x.at_ = k ∧ x.many = m ∧ x.l = pieceL bl sz k) {k : Nat} (hk : k < l.length) :
    ∃ a c, w.rangeAt Q (k * 4) [.int .u32 id, .int .i64 k, .int .i64 m, .slice a (pieceL bl sz k).length c] ∧ HoldsB w w.heap.size (.slice a (pieceL bl sz k).length c) (pieceL bl sz k) := by
  obtain ⟨e1, e2, e3, e4⟩ := hx k l[k] (List.getElem?_eq_getElem hk)
  have ht := h.t _ (List.getElem_mem hk)
  obtain ⟨a, n, c, e5, e6⟩ := ht.slice
  have hr := h.at hk
  unfold pcc at hr
  rw [e1, e2, e3, e5, e6, e4] at hr
  rw [e5, e6, e4] at ht
  exact ⟨a, c, hr, ht⟩
theorem calls_world {P : Program} {f : FuncId} {args : Array Value} {w : World} {R : Ending → World → Prop} (F : World → Prop) (hF : F w) (h : ∀ w2, F w2 → Calls P f args w2 R) : Calls P f args w R := h w hF
def bA : List Int := [97, 98, 99, 100, 101]
theorem bA_0 : pieceL bA 2 0 = [97, 98] := by decide
theorem bA_1 : pieceL bA 2 1 = [99, 100] := by decide
theorem bA_2 : pieceL bA 2 2 = [101] := by decide
theorem bA_b : Bytes bA := by unfold Bytes bA; decide
def j1 (v : Value) : PjM := ⟨true, 1, [noPt, noPt, ⟨true, v, [101]⟩]⟩
def j2 (v u : Value) : PjM := ⟨true, 1, [⟨true, u, [97, 98]⟩, noPt, ⟨true, v, [101]⟩]⟩
theorem take1 (a : Option Addr) (c : Nat) (v : Value) : takeR ⟨false, 0, []⟩ ⟨1, 2, 3, a, 1, c⟩ [101] v = (0, false, [], j1 v) := by rfl
theorem take2 (a : Option Addr) (c : Nat) (v u : Value) : takeR (j1 v) ⟨1, 0, 3, a, 2, c⟩ [97, 98] u = (0, false, [], j2 v u) := by rfl
theorem take3 (a : Option Addr) (c : Nat) (v u z : Value) : takeR (j2 v u) ⟨1, 0, 3, a, 2, c⟩ [97, 98] z = (0, false, [], j2 v u) := by rfl
theorem take4 (a : Option Addr) (c : Nat) (v u z : Value) : takeR (j2 v u) ⟨1, 1, 3, a, 2, c⟩ [99, 100] z = (0, true, bA, ⟨true, 1, []⟩) := by rfl
theorem textA : ((strOfNums bA).toList == [97, 98, 99, 100, 101]) = true := by kernel_rfl
set_option maxRecDepth 100000 in
set_option maxHeartbeats 4000000 in
theorem awake_any (w : World) : Calls Try.prog 8 #[] w fun r w' => r = .returned (.bool true) ∧ Below w.heap.size w w' := by
  have hcv := fun (w : World) (C : Array Value) (n c : Nat) => Lib.run_convert_bytes_const (P := Try.prog) w 23 5 C n c Try.underlying23 Try.underlying5
  go_enter Try.func8, Try.ntmps8
  go_wp2_with fail
  clear hcv
  refine calls_world (fun W => HoldsB W W.heap.size (.slice (some ⟨w.heap.size, 0, none⟩) 5 5) bA ∧ Below w.heap.size w W) ⟨HoldsB.ofRow2 (off := 0) (l := bA) (Blk.newAt (w := w) _ rfl) rfl (by decide) (by decide) (fun i hi => match i, hi with | 0, _ => rfl | 1, _ => rfl | 2, _ => rfl | 3, _ => rfl | 4, _ => rfl | i + 5, hi => absurd hi (by simp [bA])) bA_b, more (Below.refl _ _) _⟩ ?_
  rintro w1 ⟨h1, h2⟩
  have H2 := Kp.mk h2
  refine (split_any 1 2 3 _ bA w1 h1 (by decide) (by decide) (by decide) (by decide) (by decide)).mono ?_
  rintro r w2 ⟨Q, l, rfl, hQ, hb, hr, hl, hx⟩
  have HB2 : Kp (Below w.heap.size w w2) := ⟨h2.trans (hb.mono h2.size)⟩
  have HR := Kp.mk hr
  have HX := Kp.mk hx
  have HL := Kp.mk hl
  have HQ : Kp (w.heap.size ≤ Q) := ⟨Nat.le_trans h2.size hQ⟩
  clear h1 h2 hQ hb hr hl hx
  go_wp2_with fail
  refine (new_one w2).mono ?_
  rintro r w3 ⟨rfl, hn, hb⟩
  obtain ⟨G, hG⟩ : ∃ G, G = w2.heap.size := ⟨_, rfl⟩
  rw [← hG] at hn ⊢
  have HJ3 : Kp (JIs w3 G G ⟨false, 0, []⟩) := ⟨JIs.new hn⟩
  have HR3 : Kp (PRow w3 Q l) := ⟨HR.out.keep hb⟩
  have HB3 : Kp (Below w.heap.size w w3) := ⟨HB2.out.trans (hb.mono HB2.out.size)⟩
  have HGw : Kp (w.heap.size ≤ G) := ⟨by rw [hG]; exact HB2.out.size⟩
  clear hn hb hG HR HB2
  obtain ⟨a1, c1, g1, t1⟩ := HR3.out.piece HX.out (k := 2) (by rw [HL.out]; decide)
  rw [bA_2] at g1 t1
  have HG1 := Kp.mk g1
  have HT1 := Kp.mk t1
  clear g1 t1
  go_wp2_with (refine wpList_load_mid rfl 30 (.tmp 23) rfl Q (2 * 4) rfl [.int .u32 1, .int .i64 2, .int .i64 3, .slice a1 1 c1] _ HG1.out Try.underlying30 rfl info30s ?_)
  refine (take_any G G ⟨false, 0, []⟩ ⟨1, 2, 3, a1, 1, c1⟩ [101] w3 HJ3.out HT1.out (show (0 : Int) ≤ 1 ∧ (1 : Int) ≤ 4294967295 by decide)).mono ?_
  rintro r w4 ⟨q1, v1, u1, e1, s1, -⟩
  rw [take1] at e1 s1
  subst e1
  have HS1 := Kp.mk s1
  have HR4 : Kp (PRow w4 Q l) := ⟨HR3.out.jstep HJ3.out (.inl rfl) s1⟩
  have HB4 : Kp (Below w.heap.size w w4) := ⟨HB3.out.trans (s1.below HGw.out HGw.out HB3.out.size)⟩
  have HQ1 : Kp (w.heap.size ≤ q1) := ⟨by rcases s1.at_ with e | e <;> have := HB3.out.size <;> have := HGw.out <;> omega⟩
  obtain ⟨a2, c2, g2, t2⟩ := HR4.out.piece HX.out (k := 0) (by rw [HL.out]; decide)
  rw [bA_0] at g2 t2
  have HG2 := Kp.mk g2
  have HT2 := Kp.mk t2
  clear g2 t2 s1
  go_wp2_with (refine wpList_load_mid rfl 30 (.tmp 28) rfl Q (0 * 4) rfl [.int .u32 1, .int .i64 0, .int .i64 3, .slice a2 2 c2] _ HG2.out Try.underlying30 rfl info30s ?_)
  refine (take_any G q1 (j1 v1) ⟨1, 0, 3, a2, 2, c2⟩ [97, 98] w4 HS1.out.is HT2.out (show (0 : Int) ≤ 1 ∧ (1 : Int) ≤ 4294967295 by decide)).mono ?_
  rintro r w5 ⟨q2, v2, u2, e2, s2, -⟩
  rw [take2] at e2 s2
  subst e2
  have HS2 := Kp.mk s2
  have HR5 : Kp (PRow w5 Q l) := ⟨HR4.out.jstep HS1.out.is (.inr (show 0 < 3 by decide)) s2⟩
  have HB5 : Kp (Below w.heap.size w w5) := ⟨HB4.out.trans (s2.below HGw.out HQ1.out HB4.out.size)⟩
  have HQ2 : Kp (w.heap.size ≤ q2) := ⟨by rcases s2.at_ with e | e <;> have := HB4.out.size <;> have := HQ1.out <;> omega⟩
  obtain ⟨a3, c3, g3, t3⟩ := HR5.out.piece HX.out (k := 0) (by rw [HL.out]; decide)
  rw [bA_0] at g3 t3
  have HG3 := Kp.mk g3
  have HT3 := Kp.mk t3
  clear g3 t3 s2
  go_wp2_with (refine wpList_load_mid rfl 30 (.tmp 33) rfl Q (0 * 4) rfl [.int .u32 1, .int .i64 0, .int .i64 3, .slice a3 2 c3] _ HG3.out Try.underlying30 rfl info30s ?_)
  refine (take_any G q2 (j2 v1 v2) ⟨1, 0, 3, a3, 2, c3⟩ [97, 98] w5 HS2.out.is HT3.out (show (0 : Int) ≤ 1 ∧ (1 : Int) ≤ 4294967295 by decide)).mono ?_
  rintro r w6 ⟨q3, v3, u3, e3, s3, -⟩
  rw [take3] at e3 s3
  subst e3
  have HS3 := Kp.mk s3
  have HR6 : Kp (PRow w6 Q l) := ⟨HR5.out.jstep HS2.out.is (.inr (show 0 < 3 by decide)) s3⟩
  have HB6 : Kp (Below w.heap.size w w6) := ⟨HB5.out.trans (s3.below HGw.out HQ2.out HB5.out.size)⟩
  have HQ3 : Kp (w.heap.size ≤ q3) := ⟨by rcases s3.at_ with e | e <;> have := HB5.out.size <;> have := HQ2.out <;> omega⟩
  obtain ⟨a4, c4, g4, t4⟩ := HR6.out.piece HX.out (k := 1) (by rw [HL.out]; decide)
  rw [bA_1] at g4 t4
  have HG4 := Kp.mk g4
  have HT4 := Kp.mk t4
  clear g4 t4 s3
  go_wp2_with (refine wpList_load_mid rfl 30 (.tmp 39) rfl Q (1 * 4) rfl [.int .u32 1, .int .i64 1, .int .i64 3, .slice a4 2 c4] _ HG4.out Try.underlying30 rfl info30s ?_)
  refine (take_any G q3 (j2 v1 v2) ⟨1, 1, 3, a4, 2, c4⟩ [99, 100] w6 HS3.out.is HT4.out (show (0 : Int) ≤ 1 ∧ (1 : Int) ≤ 4294967295 by decide)).mono ?_
  rintro r w7 ⟨q4, v4, u4, e4, s4, hu4, -, -⟩
  rw [take4] at e4 s4 hu4
  subst e4
  have HB7 : Kp (Below w.heap.size w w7) := ⟨HB6.out.trans (s4.below HGw.out HQ3.out HB6.out.size)⟩
  have ht7 := hu4.text
  have hte := textA
  obtain ⟨ua, un, uc, rfl, -⟩ := hu4.slice
  clear s4 hu4
  simp only [] at ht7
  generalize strOfNums bA = sA at *
  go_wp2_with fail
  go_ret
  exact ⟨rfl, HB7.out⟩
end Go.Proofs.Ytlgcpfeaecpocaa
