/-
  Rows of short sums (Eq, Bld, From, Same).
-/
import Derived.Test.YtgabjmmmiogfjaaDoorFrI
import Derived.Stop.BytesEq
import Derived.Deep.MidRow
import Derived.Deep.WholeRow
namespace Go.Proofs.YtgabjmmmiogfjaaDoor
open Go.RowKit

theorem info42' : (Tryd.prog.info? 40).map (fun i => (i.zero, i.size, i.bytes)) = some (some (.agg #[.int .u8 0, .int .u8 0, .int .u8 0, .int .u8 0, .int .u8 0, .int .u8 0, .int .u8 0, .int .u8 0, .int .u8 0, .int .u8 0, .int .u8 0, .int .u8 0, .int .u8 0, .int .u8 0, .int .u8 0, .int .u8 0]), 16, 16) := by kernel_rfl
theorem info51' : (Tryd.prog.info? 83).map (fun i => (i.zero, i.size, i.bytes)) = some (some (.agg #[.int .u8 0, .int .u8 0, .int .u8 0, .int .u8 0, .int .u8 0, .int .u8 0, .int .u8 0, .int .u8 0, .int .u8 0, .int .u8 0, .int .u8 0, .int .u8 0, .int .u8 0, .int .u8 0, .int .u8 0, .int .u8 0]), 16, 16) := by kernel_rfl
theorem eqIn51 {p : List Int} (hb : Bytes p) (h : p.length = 16) (w : World) : (Op.equalIn 10000 83 (.agg (bv p).toArray) (.agg (bv p).toArray)).run Tryd.prog w = .ok true w := by
  have := run_equalIn_bytes (P := Tryd.prog) w 9998 83 5 16 Tryd.underlying83 Tryd.underlying5 size5 (p.map fun n => UInt8.ofNat n.toNat) (p.map fun n => UInt8.ofNat n.toNat) (by simp [h]) (by simp [h])
  rw [bv_cells hb] at this
  simpa using this
theorem eqIn42 {p : List Int} (hb : Bytes p) (h : p.length = 16) (w : World) : (Op.equalIn 10000 40 (.agg (bv p).toArray) (.agg (bv p).toArray)).run Tryd.prog w = .ok true w := by
  have := run_equalIn_bytes (P := Tryd.prog) w 9998 40 5 16 Tryd.underlying40 Tryd.underlying5 size5 (p.map fun n => UInt8.ofNat n.toNat) (p.map fun n => UInt8.ofNat n.toNat) (by simp [h]) (by simp [h])
  rw [bv_cells hb] at this
  simpa using this
theorem eql51 {p : List Int} (hb : Bytes p) (h : p.length = 16) (w : World) : (binOp .eql 83 (sumV p) (sumV p)).run Tryd.prog w = .ok (.bool true) w := by
  unfold sumV; rw [run_eql_struct, eqIn51 hb h]; rfl
theorem eql42 {p : List Int} (hb : Bytes p) (h : p.length = 16) (w : World) : (binOp .eql 40 (sumV p) (sumV p)).run Tryd.prog w = .ok (.bool true) w := by
  unfold sumV; rw [run_eql_struct, eqIn42 hb h]; rfl
theorem neq51 {p : List Int} (hb : Bytes p) (h : p.length = 16) (w : World) : (binOp .neq 83 (sumV p) (sumV p)).run Tryd.prog w = .ok (.bool false) w := by
  unfold sumV; rw [run_neq_struct, eqIn51 hb h]; rfl
theorem neq42 {p : List Int} (hb : Bytes p) (h : p.length = 16) (w : World) : (binOp .neq 40 (sumV p) (sumV p)).run Tryd.prog w = .ok (.bool false) w := by
  unfold sumV; rw [run_neq_struct, eqIn42 hb h]; rfl
theorem eqg51 (p q : List Int) (x y : Operand) (w : World) : (eqGuard .eql 83 x y (sumV p) (sumV q)).run Tryd.prog w = .ok () w := by kernel_rfl
theorem neg51 (p q : List Int) (x y : Operand) (w : World) : (eqGuard .neq 83 x y (sumV p) (sumV q)).run Tryd.prog w = .ok () w := by kernel_rfl
/-- The slice v holds n short sums, whose bytes are l. -/
def HoldsS (w : World) (v : Value) (n : Nat) (l : List Int) : Prop :=
  ∃ a cap, v = .slice a n cap ∧ l.length = n * 16 ∧ n ≤ maxLen ∧ Bytes l ∧ (0 < n → ∃ b off, a = some ⟨b, off, none⟩ ∧ b < w.heap.size ∧ ∀ j, j < n * 16 → w.cell? ⟨b, off + j, none⟩ = some (.int .u8 (l.getD j 0)))
theorem HoldsS.keep {w w' : World} {v : Value} {n : Nat} {l : List Int} (h : HoldsS w v n l) (hb : Below w.heap.size w w') : HoldsS w' v n l := by
  obtain ⟨a, cap, h1, h2, h3, h4, h5⟩ := h
  refine ⟨a, cap, h1, h2, h3, h4, fun h0 => ?_⟩
  obtain ⟨b, off, ha, hlt, hc⟩ := h5 h0
  exact ⟨b, off, ha, Nat.lt_of_lt_of_le hlt hb.size, fun j hj => (hb.cell (p := ⟨b, off + j, none⟩) hlt).trans (hc j hj)⟩
theorem HoldsS.ofRow {w : World} {base n : Nat} {t : TypeId} {v : Value} {l : List Int} (h7 : Bytes l) (hn : n ≤ maxLen) (hl : l.length = n * 16) (h : w.ownsRow base t 16 v n (bv l)) : HoldsS w v n l := by
  rcases h.2 with ⟨rfl, h0⟩ | ⟨g, cap, cur, rfl, hb, hg, h1, h2, h3, h4⟩
  · subst h0
    exact ⟨none, 0, rfl, hl, hn, h7, fun h => by omega⟩
  · refine ⟨_, cap, rfl, hl, hn, h7, fun _ => ⟨g, 0, rfl, (Array.getElem?_eq_some_iff.1 hg).1, fun j hj => ?_⟩⟩
    rw [cell_of_row w g (0 + j) cur t (0, 0) hg]
    have h5 : (bv l)[j]? = some (.int .u8 (l.getD j 0)) := by
      rw [List.getElem?_map, List.getD_eq_getElem?_getD, List.getElem?_eq_getElem (by omega)]
      simp
    rw [← h4, List.getElem?_take, if_pos hj] at h5
    simpa using h5
/-- The bytes of the i-th one. -/
def sumAt (l : List Int) (i : Nat) : List Int := (l.drop (i * 16)).take 16
theorem sumAt_len {l : List Int} {n i : Nat} (h : l.length = n * 16) (hi : i < n) : (sumAt l i).length = 16 := by
  unfold sumAt
  rw [List.length_take, List.length_drop]
  omega
theorem sumAt_bytes {l : List Int} (h : Bytes l) (i : Nat) : Bytes (sumAt l i) := (h.drop _).take _
theorem HoldsS.range {w : World} {a : Option Addr} {n m cap : Nat} {l : List Int} (h : HoldsS w (.slice a m cap) n l) {i : Nat} (hi : i < n) : ∃ b off, a = some ⟨b, off, none⟩ ∧ b < w.heap.size ∧ w.rangeAt b (off + i * 16) (bv (sumAt l i)) := by
  obtain ⟨a', cap', h1, h2, h3, h4, h5⟩ := h
  simp only [Value.slice.injEq] at h1
  obtain ⟨rfl, rfl, rfl⟩ := h1
  obtain ⟨b, off, rfl, hlt, hc⟩ := h5 (by omega)
  refine ⟨b, off, rfl, hlt, fun j v hv => ?_⟩
  unfold sumAt bv at hv
  have hj : j < 16 := by
    have := (List.getElem?_eq_some_iff.1 hv).1
    rw [List.length_map, List.length_take] at this
    omega
  have := hc (i * 16 + j) (by omega)
  rw [Nat.add_assoc, this, ← hv, List.getElem?_map, List.getElem?_take, if_pos hj, List.getElem?_drop, List.getD_eq_getElem?_getD, List.getElem?_eq_getElem (by omega)]
  rfl

/-- A slice literal of one part, by its run. -/
theorem wpList_buildSlice_one {P : Program} {w : World} {ops : Array Oper} {rest : List Oper} {o : Oper} {a : Act} {Q : Exit → Act → World → Prop} (hg : o.guard = none) (t : TypeId) (len : Nat) (x : Operand) (ho : o.op = .buildSlice t len #[(0, x)])
    (u : Value) (hx : a.eval x = u) (v : Value) (w' : World) (hrun : (Instr.buildSlice t len #[(0, u)]).run P w = .ok v w') (h : wpList P ops Q rest (a.put o.dst v) w') : wpList P ops Q (o :: rest) a w := by
  subst hx
  refine wpList_plain hg fun _ hK => ?_
  unfold Oper.wp execOp
  simp only [ho, Sem.run_bind, List.map_toArray, List.map_cons, List.map_nil, hrun, Result.andThen_ok]
  exact hK _ _ h
theorem list16 {p : List Int} (h : p.length = 16) : ∃ x0 x1 x2 x3 x4 x5 x6 x7 x8 x9 x10 x11 x12 x13 x14 x15, p = [x0, x1, x2, x3, x4, x5, x6, x7, x8, x9, x10, x11, x12, x13, x14, x15] := by
  match p, h with
  | [x0, x1, x2, x3, x4, x5, x6, x7, x8, x9, x10, x11, x12, x13, x14, x15], _ => exact ⟨x0, x1, x2, x3, x4, x5, x6, x7, x8, x9, x10, x11, x12, x13, x14, x15, rfl⟩
theorem build43 {p : List Int} (h : p.length = 16) (w : World) : (Instr.buildSlice 101 1 #[(0, sumV p)]).run Tryd.prog w = .ok (.slice (some ⟨w.heap.size, 0, none⟩) 1 1) (w.alloc (.cells (bv p).toArray 40)) := by
  obtain ⟨x0, x1, x2, x3, x4, x5, x6, x7, x8, x9, x10, x11, x12, x13, x14, x15, rfl⟩ := list16 h
  kernel_rfl
theorem build55 {p : List Int} (h : p.length = 16) (w : World) : (Instr.buildSlice 111 1 #[(0, sumV p)]).run Tryd.prog w = .ok (.slice (some ⟨w.heap.size, 0, none⟩) 1 1) (w.alloc (.cells (bv p).toArray 83)) := by
  obtain ⟨x0, x1, x2, x3, x4, x5, x6, x7, x8, x9, x10, x11, x12, x13, x14, x15, rfl⟩ := list16 h
  kernel_rfl

theorem cellsL51 {l : List Int} (h : l.length = 16) : (Tryd.prog.info? 83).map (·.size) = some (bv l).length := by rw [List.length_map, h]; exact info51
theorem cellsL42 {l : List Int} (h : l.length = 16) : (Tryd.prog.info? 40).map (·.size) = some (bv l).length := by rw [List.length_map, h]; exact info42
theorem take16 (l : List Int) (i : Nat) : bv (l.take (i * 16)) ++ bv (sumAt l i) = bv (l.take ((i + 1) * 16)) := by
  unfold sumAt bv
  rw [← List.map_append, show (i + 1) * 16 = i * 16 + 16 by omega, List.take_add]
set_option maxHeartbeats 1600000 in
theorem sfrom_any (v : Value) (n : Nat) (l : List Int) (w : World) (h : HoldsS w v n l) (hn : n ≤ 1000000) :
    Calls Tryd.prog 97 #[v] w fun r w' => ∃ v', r = .returned v' ∧ w'.ownsRow w.heap.size 40 16 v' n (bv l) ∧ Below w.heap.size w w' := by
  have HS := Lib.hid h
  obtain ⟨a, cap, rfl, hl, -⟩ := h
  have HL := Lib.hid hl
  obtain ⟨i0, hi, hz0, hz1, hz2⟩ := info_parts info42'
  clear hl
  go_enter Tryd.func97, Tryd.ntmps97
  go_wp2_with fail
  go_loopw [3, 8] (fun v c wr => ∃ i : Nat, i ≤ n ∧ c = .int .i64 i ∧ wr.ownsRow w.heap.size 40 16 v i (bv (l.take (i * 16))) ∧ Below w.heap.size w wr) (fun _ c _ => n - (intOf c).toNat)
  case atStart => exact ⟨0, by omega, rfl, World.ownsRow_nil _ _ _ _, Below.refl _ _⟩
  case round =>
    obtain ⟨i, hi', rfl, hrow, hE⟩ := hrel
    by_cases hlt : i < n
    · obtain ⟨b, off, rfl, hbl, hrange⟩ := (HS.out.keep hE).range hlt
      have hlp := sumAt_len HL.out hlt
      have HX := Lib.hid (take16 l i)
      generalize sumAt l i = p at hrange hlp HX
      have HR := Lib.hid hrange
      have HE := Lib.hid hE
      have HROW : Hid (((wr.alloc z16o).setRow wr.heap.size (bv p).toArray).ownsRow w.heap.size 40 16 u3 i (bv (l.take (i * 16)))) := by
        unfold Hid
        rw [World.setRow_alloc_new]
        exact hrow.alloc _
      have HG : Hid (((wr.alloc z16o).setRow wr.heap.size (bv p).toArray).heap[wr.heap.size]? = some (.cells (bv p).toArray 83 (0, 0))) := (Blk.new wr z16o).setRow _
      have HE2 : Hid (Below w.heap.size w ((wr.alloc z16o).setRow wr.heap.size (bv p).toArray)) := by
        unfold Hid
        exact Below.row (hE.alloc hE.size z16o) hE.size _
      have hbs := build43 hlp
      have HC := Lib.hid (cells51 hlp)
      have HCL := Lib.hid (cellsL51 hlp)
      have HLP := Lib.hid hlp
      generalize bv (l.take (i * 16)) = xs at HROW HX hrow
      clear hrange hrow hE hlp
      go_wp2_with (first
        | (refine wpList_load_mid rfl 83 (.tmp 10) rfl b (off + i * 16) rfl (bv p) _ HR.out Tryd.underlying83 rfl HCL.out ?_)
        | (refine wpList_store_row rfl 83 (.tmp 5) (.tmp 11) rfl wr.heap.size (bv p).toArray rfl rfl 83 _ (Blk.new wr z16o) HC.out (size51 HLP.out) (bv_all p) ?_)
        | (refine wpList_load_row rfl 83 (.tmp 5) rfl wr.heap.size rfl 83 (bv p).toArray (0, 0) _ HG.out Tryd.underlying83 rfl HC.out ?_)
        | (refine wpList_buildSlice_one rfl 101 1 (.tmp 13) rfl (sumV p) rfl _ _ (hbs _) ?_)
        | (at_builtin; refine wpList_append_own _ rfl _ _ 101 rfl w.heap.size 40 i0 _ 16 16 Tryd.underlying101 hi hz0 hz1 hz2 rfl (by decide) _ _ _ rfl (HROW.out.alloc _) ⟨((wr.alloc z16o).setRow wr.heap.size (bv p).toArray).heap.size, 0, none⟩ 1 1 (bv p) rfl ?c0 (row_new _ _ _) ?c2 ?c3 ?c4 ?c5 ?_))
      case c0 => rw [bv_len, HLP.out]
      case c2 => exact bv_one _
      case c3 => unfold maxLen; omega
      case c4 => omega
      case c5 => have := HE2.out.size; simp at this ⊢; omega
      · intro v' w4 hown' hgrow _
        have HO4 := Lib.hid hown'
        have HB4 := Lib.hid (below_row_grown (HE2.out.alloc HE2.out.size _) (by have := HE2.out.size; simp at this ⊢; omega) (HROW.out.alloc _) hgrow)
        clear hown' hgrow hbs
        go_wp2_with fail
        exact ⟨⟨i + 1, by omega, by go_num, by have := HO4.out; rw [HX.out] at this; exact this, HB4.out⟩, by simp [intOf]; omega⟩
    · obtain rfl : i = n := by omega
      have HROW := Lib.hid hrow
      have HE := Lib.hid hE
      clear hrow hE
      go_wp2_with fail
      go_ret
      refine ⟨_, rfl, ?_, HE.out⟩
      have := HROW.out
      rw [List.take_of_length_le (by have := HL.out; omega)] at this
      exact this
set_option maxHeartbeats 1600000 in
theorem sto_any (v : Value) (n : Nat) (l : List Int) (w : World) (h : HoldsS w v n l) (hn : n ≤ 1000000) :
    Calls Tryd.prog 91 #[v] w fun r w' => ∃ v', r = .returned v' ∧ w'.ownsRow w.heap.size 83 16 v' n (bv l) ∧ Below w.heap.size w w' := by
  have HS := Lib.hid h
  obtain ⟨a, cap, rfl, hl, -⟩ := h
  have HL := Lib.hid hl
  obtain ⟨i0, hi, hz0, hz1, hz2⟩ := info_parts info51'
  clear hl
  go_enter Tryd.func91, Tryd.ntmps91
  go_wp2_with fail
  go_loopw [3, 8] (fun v c wr => ∃ i : Nat, i ≤ n ∧ c = .int .i64 i ∧ wr.ownsRow w.heap.size 83 16 v i (bv (l.take (i * 16))) ∧ Below w.heap.size w wr) (fun _ c _ => n - (intOf c).toNat)
  case atStart => exact ⟨0, by omega, rfl, World.ownsRow_nil _ _ _ _, Below.refl _ _⟩
  case round =>
    obtain ⟨i, hi', rfl, hrow, hE⟩ := hrel
    by_cases hlt : i < n
    · obtain ⟨b, off, rfl, hbl, hrange⟩ := (HS.out.keep hE).range hlt
      have hlp := sumAt_len HL.out hlt
      have HX := Lib.hid (take16 l i)
      generalize sumAt l i = p at hrange hlp HX
      have HR := Lib.hid hrange
      have HE := Lib.hid hE
      have HROW : Hid (((wr.alloc z16p).setRow wr.heap.size (bv p).toArray).ownsRow w.heap.size 83 16 u3 i (bv (l.take (i * 16)))) := by
        unfold Hid
        rw [World.setRow_alloc_new]
        exact hrow.alloc _
      have HG : Hid (((wr.alloc z16p).setRow wr.heap.size (bv p).toArray).heap[wr.heap.size]? = some (.cells (bv p).toArray 40 (0, 0))) := (Blk.new wr z16p).setRow _
      have HE2 : Hid (Below w.heap.size w ((wr.alloc z16p).setRow wr.heap.size (bv p).toArray)) := by
        unfold Hid
        exact Below.row (hE.alloc hE.size z16p) hE.size _
      have hbs := build55 hlp
      have HC := Lib.hid (cells42 hlp)
      have HCL := Lib.hid (cellsL42 hlp)
      have HLP := Lib.hid hlp
      generalize bv (l.take (i * 16)) = xs at HROW HX hrow
      clear hrange hrow hE hlp
      go_wp2_with (first
        | (refine wpList_load_mid rfl 40 (.tmp 10) rfl b (off + i * 16) rfl (bv p) _ HR.out Tryd.underlying40 rfl HCL.out ?_)
        | (refine wpList_store_row rfl 40 (.tmp 5) (.tmp 11) rfl wr.heap.size (bv p).toArray rfl rfl 40 _ (Blk.new wr z16p) HC.out (size51 HLP.out) (bv_all p) ?_)
        | (refine wpList_load_row rfl 40 (.tmp 5) rfl wr.heap.size rfl 40 (bv p).toArray (0, 0) _ HG.out Tryd.underlying40 rfl HC.out ?_)
        | (refine wpList_buildSlice_one rfl 111 1 (.tmp 13) rfl (sumV p) rfl _ _ (hbs _) ?_)
        | (at_builtin; refine wpList_append_own _ rfl _ _ 111 rfl w.heap.size 83 i0 _ 16 16 Tryd.underlying111 hi hz0 hz1 hz2 rfl (by decide) _ _ _ rfl (HROW.out.alloc _) ⟨((wr.alloc z16p).setRow wr.heap.size (bv p).toArray).heap.size, 0, none⟩ 1 1 (bv p) rfl ?c0 (row_new _ _ _) ?c2 ?c3 ?c4 ?c5 ?_))
      case c0 => rw [bv_len, HLP.out]
      case c2 => exact bv_one _
      case c3 => unfold maxLen; omega
      case c4 => omega
      case c5 => have := HE2.out.size; simp at this ⊢; omega
      · intro v' w4 hown' hgrow _
        have HO4 := Lib.hid hown'
        have HB4 := Lib.hid (below_row_grown (HE2.out.alloc HE2.out.size _) (by have := HE2.out.size; simp at this ⊢; omega) (HROW.out.alloc _) hgrow)
        clear hown' hgrow hbs
        go_wp2_with fail
        exact ⟨⟨i + 1, by omega, by go_num, by have := HO4.out; rw [HX.out] at this; exact this, HB4.out⟩, by simp [intOf]; omega⟩
    · obtain rfl : i = n := by omega
      have HROW := Lib.hid hrow
      have HE := Lib.hid hE
      clear hrow hE
      go_wp2_with fail
      go_ret
      refine ⟨_, rfl, ?_, HE.out⟩
      have := HROW.out
      rw [List.take_of_length_le (by have := HL.out; omega)] at this
      exact this
set_option maxHeartbeats 1600000 in
theorem sames_any (va vb : Value) (n : Nat) (l : List Int) (w : World) (ha : HoldsS w va n l) (hb : HoldsS w vb n l) (hn : n ≤ 1000000) :
    Calls Tryd.prog 96 #[va, vb] w fun r w' => r = .returned (.bool true) ∧ Below w.heap.size w w' := by
  have HA := Lib.hid ha
  have HB := Lib.hid hb
  obtain ⟨a, cap, rfl, hl, -, hby, -⟩ := ha
  obtain ⟨a2, cap2, rfl, -⟩ := hb
  have HL := Lib.hid hl
  have HBY := Lib.hid hby
  clear hl hby
  go_enter Tryd.func96, Tryd.ntmps96
  go_wp2_with fail
  go_loopw [5] (fun c wr => ∃ i : Nat, i ≤ n ∧ c = .int .i64 i ∧ Below w.heap.size w wr) (fun c _ => n - (intOf c).toNat)
  case atStart => exact ⟨0, by omega, rfl, Below.refl _ _⟩
  case round =>
    obtain ⟨i, hi', rfl, hE⟩ := hrel
    by_cases hlt : i < n
    · obtain ⟨b, off, rfl, hbl, hrange⟩ := (HA.out.keep hE).range hlt
      obtain ⟨b2, off2, rfl, hbl2, hrange2⟩ := (HB.out.keep hE).range hlt
      have hlp := sumAt_len HL.out hlt
      have heq := eqIn42 (sumAt_bytes HBY.out i) hlp
      generalize sumAt l i = p at hrange hrange2 hlp heq
      have HCL := Lib.hid (cellsL42 hlp)
      have HE := Lib.hid hE
      have HR := Lib.hid (And.intro hrange hrange2)
      have HBL := Lib.hid (And.intro hbl hbl2)
      clear hrange hrange2 hE hbl hbl2
      go_wp2_with fail
      refine wp_region_flow (fun w' => Below w.heap.size w w' ∧ wr.heap.size ≤ w'.heap.size ∧ w'.rangeAt b (off + i * 16) (bv p) ∧ w'.rangeAt b2 (off2 + i * 16) (bv p)) (by kernel_rfl) (by kernel_rfl) (by kernel_rfl)
        (fun w1 w2 h hb => ⟨h.1.trans (hb.mono h.1.size), Nat.le_trans h.2.1 hb.size, fun j v hv => (hb.cell (p := ⟨b, off + i * 16 + j, none⟩) (by have := HBL.out.1; have := h.2.1; show b < _; omega)).trans (h.2.2.1 j v hv), fun j v hv => (hb.cell (p := ⟨b2, off2 + i * 16 + j, none⟩) (by have := HBL.out.2; have := h.2.1; show b2 < _; omega)).trans (h.2.2.2 j v hv)⟩)
        ⟨HE.out.drew, Nat.le_refl _, HR.out.1, HR.out.2⟩ ?_
      repeat (first
        | (apply Flow.value
           · rfl
           · (intro wx hS; exact exec_load_mid rfl rfl hS.2.2.1 Tryd.underlying40 rfl HCL.out)
           try simp only [Act.put, List.setIfInBounds_toArray, List.set_cons_zero, List.set_cons_succ])
        | (apply Flow.value
           · rfl
           · (intro wx hS; exact exec_load_mid rfl rfl hS.2.2.2 Tryd.underlying40 rfl HCL.out)
           try simp only [Act.put, List.setIfInBounds_toArray, List.set_cons_zero, List.set_cons_succ])
        | (apply Flow.value
           · rfl
           · (intro wx hS; clear hS; go_simp; with_reducible rfl)
           try simp only [Act.put, List.setIfInBounds_toArray, List.set_cons_zero, List.set_cons_succ]))
      refine Flow.done ?_
      intro w4 hS
      have HE4 := Lib.hid hS.1
      clear hS heq
      go_wp2_with fail
      exact ⟨⟨i + 1, by omega, by go_num, HE4.out⟩, by simp [intOf]; omega⟩
    · obtain rfl : i = n := by omega
      have HE := Lib.hid hE
      clear hE
      go_wp2_with fail
      go_ret
      exact ⟨rfl, HE.out⟩
end Go.Proofs.YtgabjmmmiogfjaaDoor
