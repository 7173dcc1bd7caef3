/-
  Rows of short sums: From, To, SameSums.
  grove.Fold.
-/
import Derived.Test.YtahmioiefmheeaaDoorGf11
import Derived.Deep.WholeRow
import Derived.Lib.Hide
import Derived.Deep.RegionHeld3
namespace Go.Proofs.YtahmioiefmheeaaDoor
open Go.RowKit

/-- The slice v holds n short sums, whose bytes are l. -/
def HoldsS (w : World) (v : Value) (n : Nat) (l : List Int) : Prop :=
  ∃ a cap, v = .slice a n cap ∧ l.length = n * 16 ∧ n ≤ maxLen ∧ Bytes l ∧ (0 < n → ∃ b off, a = some ⟨b, off, none⟩ ∧ b < w.heap.size ∧ ∀ j, j < n * 16 → w.cell? ⟨b, off + j, none⟩ = some (.int .u8 (l.getD j 0)))
theorem HoldsS.keep {w w' : World} {v : Value} {n : Nat} {l : List Int} (h : HoldsS w v n l) (hb : Below w.heap.size w w') : HoldsS w' v n l := by
  obtain ⟨a, cap, h1, h2, h3, h4, h5⟩ := h
  refine ⟨a, cap, h1, h2, h3, h4, fun h0 => ?_⟩
  obtain ⟨b, off, ha, hlt, hc⟩ := h5 h0
  exact ⟨b, off, ha, Nat.lt_of_lt_of_le hlt hb.size, fun j hj => (hb.cell (p := ⟨b, off + j, none⟩) hlt).trans (hc j hj)⟩
theorem HoldsS.ofRow {w : World} {base n : Nat} {t : TypeId} {v : Value} {l : List Int} (h7 : Bytes l) (hn : n ≤ maxLen) (hl : l.length = n * 16) (h : w.ownsRow base t 16 v n (bv l)) : HoldsS w v n l := by
  rcases h.2 with ⟨rfl, h0⟩ | ⟨g, cap, cur, rfl, hb, hg, h1, h2, h3, h4⟩
  · subst h0
    exact ⟨none, 0, rfl, hl, hn, h7, fun h => by omega⟩
  · refine ⟨_, cap, rfl, hl, hn, h7, fun _ => ⟨g, 0, rfl, (Array.getElem?_eq_some_iff.1 hg).1, fun j hj => ?_⟩⟩
    rw [cell_of_row w g (0 + j) cur t (0, 0) hg]
    have h5 : (bv l)[j]? = some (.int .u8 (l.getD j 0)) := by
      rw [List.getElem?_map, List.getD_eq_getElem?_getD, List.getElem?_eq_getElem (by omega)]
      simp
    rw [← h4, List.getElem?_take, if_pos hj] at h5
    simpa using h5
theorem HoldsS.range {w : World} {a : Option Addr} {n m cap : Nat} {l : List Int} (h : HoldsS w (.slice a m cap) n l) {i : Nat} (hi : i < n) : ∃ b off, a = some ⟨b, off, none⟩ ∧ b < w.heap.size ∧ w.rangeAt b (off + i * 16) (bv (segL l i)) := by
  obtain ⟨a', cap', h1, h2, h3, h4, h5⟩ := h
  simp only [Value.slice.injEq] at h1
  obtain ⟨rfl, rfl, rfl⟩ := h1
  obtain ⟨b, off, rfl, hlt, hc⟩ := h5 (by omega)
  refine ⟨b, off, rfl, hlt, fun j v hv => ?_⟩
  unfold segL bv at hv
  have hj : j < 16 := by
    have := (List.getElem?_eq_some_iff.1 hv).1
    rw [List.length_map, List.length_take] at this
    omega
  have := hc (i * 16 + j) (by omega)
  rw [Nat.add_assoc, this, ← hv, List.getElem?_map, List.getElem?_take, if_pos hj, List.getElem?_drop, List.getD_eq_getElem?_getD, List.getElem?_eq_getElem (by omega)]
  rfl
theorem wpList_buildSlice_one {P : Program} {w : World} {ops : Array Oper} {rest : List Oper} {o : Oper} {a : Act} {Q : Exit → Act → World → Prop} (hg : o.guard = none) (t : TypeId) (len : Nat) (x : Operand) (ho : o.op = .buildSlice t len #[(0, x)])
    (u : Value) (hx : a.eval x = u) (v : Value) (w' : World) (hrun : (Instr.buildSlice t len #[(0, u)]).run P w = .ok v w') (h : wpList P ops Q rest (a.put o.dst v) w') : wpList P ops Q (o :: rest) a w := by
  subst hx
  refine wpList_plain hg fun _ hK => ?_
  unfold Oper.wp execOp
  simp only [ho, Sem.run_bind, List.map_toArray, List.map_cons, List.map_nil, hrun, Result.andThen_ok]
  exact hK _ _ h
theorem list16 {p : List Int} (h : p.length = 16) : ∃ x0 x1 x2 x3 x4 x5 x6 x7 x8 x9 x10 x11 x12 x13 x14 x15, p = [x0, x1, x2, x3, x4, x5, x6, x7, x8, x9, x10, x11, x12, x13, x14, x15] := by
  match p, h with
  | [x0, x1, x2, x3, x4, x5, x6, x7, x8, x9, x10, x11, x12, x13, x14, x15], _ => exact ⟨x0, x1, x2, x3, x4, x5, x6, x7, x8, x9, x10, x11, x12, x13, x14, x15, rfl⟩
set_option maxRecDepth 100000 in
theorem build65 {p : List Int} (h : p.length = 16) (w : World) : (Instr.buildSlice 65 1 #[(0, dgV p)]).run Tryd.prog w = .ok (.slice (some ⟨w.heap.size, 0, none⟩) 1 1) (w.alloc (.cells (bv p).toArray 32)) := by
  obtain ⟨x0, x1, x2, x3, x4, x5, x6, x7, x8, x9, x10, x11, x12, x13, x14, x15, rfl⟩ := list16 h
  kernel_rfl
set_option maxRecDepth 100000 in
theorem build66 {p : List Int} (h : p.length = 16) (w : World) : (Instr.buildSlice 66 1 #[(0, dgV p)]).run Tryd.prog w = .ok (.slice (some ⟨w.heap.size, 0, none⟩) 1 1) (w.alloc (.cells (bv p).toArray 33)) := by
  obtain ⟨x0, x1, x2, x3, x4, x5, x6, x7, x8, x9, x10, x11, x12, x13, x14, x15, rfl⟩ := list16 h
  kernel_rfl
theorem row_new (w : World) (l : List Int) (t : TypeId) : ∀ j u, (bv l)[j]? = some u → (w.alloc (.cells (bv l).toArray t)).cell? ((⟨w.heap.size, 0, none⟩ : Addr).add j) = some u := by
  intro j u hu
  have e : (⟨w.heap.size, 0, none⟩ : Addr).add j = ⟨w.heap.size, j, none⟩ := by unfold Addr.add; split <;> simp_all
  rw [e, (Blk.new w (.cells (bv l).toArray t)).cell j, List.getElem?_toArray]
  exact hu
theorem info32s : (Tryd.prog.info? 32).map (fun i => (i.zero, i.size, i.bytes)) = some (some (.agg #[.int .u8 0, .int .u8 0, .int .u8 0, .int .u8 0, .int .u8 0, .int .u8 0, .int .u8 0, .int .u8 0, .int .u8 0, .int .u8 0, .int .u8 0, .int .u8 0, .int .u8 0, .int .u8 0, .int .u8 0, .int .u8 0]), 16, 16) := by kernel_rfl
theorem cellsL33 {l : List Int} (h : l.length = 16) : (Tryd.prog.info? 33).map (·.size) = some (bv l).length := by rw [List.length_map, h]; exact info33L
theorem info32L : (Tryd.prog.info? 32).map (·.size) = some 16 := by kernel_rfl
theorem cellsL32 {l : List Int} (h : l.length = 16) : (Tryd.prog.info? 32).map (·.size) = some (bv l).length := by rw [List.length_map, h]; exact info32L
theorem take16 (l : List Int) (i : Nat) : bv (l.take (i * 16)) ++ bv (segL l i) = bv (l.take ((i + 1) * 16)) := by
  unfold segL bv
  rw [← List.map_append, show (i + 1) * 16 = i * 16 + 16 by omega, List.take_add]
set_option maxRecDepth 100000 in
set_option maxHeartbeats 1600000 in
theorem fromS_any (v : Value) (n : Nat) (l : List Int) (w : World) (h : HoldsS w v n l) (hn : n ≤ 1000000) :
    Calls Tryd.prog 50 #[v] w fun r w' => ∃ v', r = .returned v' ∧ w'.ownsRow w.heap.size 32 16 v' n (bv l) ∧ Below w.heap.size w w' := by
  have HS := Lib.hid h
  obtain ⟨a, cap, rfl, hl, -⟩ := h
  have HL := Lib.hid hl
  obtain ⟨i0, hi, hz0, hz1, hz2⟩ := info_parts info32s
  clear hl
  go_enter Tryd.func50, Tryd.ntmps50
  go_wp2_with fail
  go_loopw [3, 8] (fun v c wr => ∃ i : Nat, i ≤ n ∧ c = .int .i64 i ∧ wr.ownsRow w.heap.size 32 16 v i (bv (l.take (i * 16))) ∧ Below w.heap.size w wr) (fun _ c _ => n - (intOf c).toNat)
  case atStart => exact ⟨0, by omega, rfl, World.ownsRow_nil _ _ _ _, Below.refl _ _⟩
  case round =>
    obtain ⟨i, hi', rfl, hrow, hE⟩ := hrel
    by_cases hlt : i < n
    · obtain ⟨b, off, rfl, hbl, hrange⟩ := (HS.out.keep hE).range hlt
      have hlp := segL_len HL.out hlt
      have HX := Lib.hid (take16 l i)
      generalize segL l i = p at hrange hlp HX
      have HR := Lib.hid hrange
      have HE := Lib.hid hE
      have HROW : Hid (((wr.alloc z50).setRow wr.heap.size (bv p).toArray).ownsRow w.heap.size 32 16 u3 i (bv (l.take (i * 16)))) := by
        unfold Hid
        rw [World.setRow_alloc_new]
        exact hrow.alloc _
      have HG : Hid (((wr.alloc z50).setRow wr.heap.size (bv p).toArray).heap[wr.heap.size]? = some (.cells (bv p).toArray 33 (0, 0))) := (Blk.new wr z50).setRow _
      have HE2 : Hid (Below w.heap.size w ((wr.alloc z50).setRow wr.heap.size (bv p).toArray)) := by
        unfold Hid
        exact Below.row (hE.alloc hE.size z50) hE.size _
      have hbs := build65 hlp
      have HC := Lib.hid (cells50 hlp)
      have HCL := Lib.hid (cellsL33 hlp)
      have HLP := Lib.hid hlp
      generalize bv (l.take (i * 16)) = xs at HROW HX hrow
      clear hrange hrow hE hlp
      go_wp2_with (first
        | (refine wpList_load_mid rfl 33 (.tmp 10) rfl b (off + i * 16) rfl (bv p) _ HR.out Tryd.underlying33 rfl HCL.out ?_)
        | (refine wpList_store_row rfl 33 (.tmp 5) (.tmp 11) rfl wr.heap.size (bv p).toArray rfl rfl 33 _ (Blk.new wr z50) HC.out (size50 HLP.out) (kv_all _ p) ?_)
        | (refine wpList_load_row rfl 33 (.tmp 5) rfl wr.heap.size rfl 33 (bv p).toArray (0, 0) _ HG.out Tryd.underlying33 rfl HC.out ?_)
        | (refine wpList_buildSlice_one rfl 65 1 (.tmp 13) rfl (dgV p) rfl _ _ (hbs _) ?_)
        | (at_builtin; refine wpList_append_own _ rfl _ _ 65 rfl w.heap.size 32 i0 _ 16 16 Tryd.underlying65 hi hz0 hz1 hz2 rfl (by decide) _ _ _ rfl (HROW.out.alloc _) ⟨((wr.alloc z50).setRow wr.heap.size (bv p).toArray).heap.size, 0, none⟩ 1 1 (bv p) rfl ?c0 (row_new _ _ _) ?c2 ?c3 ?c4 ?c5 ?_))
      case c0 => rw [bv_len, HLP.out]
      case c2 => exact bv_one _
      case c3 => unfold maxLen; omega
      case c4 => omega
      case c5 => have := HE2.out.size; simp at this ⊢; omega
      · intro v' w4 hown' hgrow _
        have HO4 := Lib.hid hown'
        have HB4 := Lib.hid (below_row_grown (HE2.out.alloc HE2.out.size _) (by have := HE2.out.size; simp at this ⊢; omega) (HROW.out.alloc _) hgrow)
        clear hown' hgrow hbs
        go_wp2_with fail
        exact ⟨⟨i + 1, by omega, by go_num, by have := HO4.out; rw [HX.out] at this; exact this, HB4.out⟩, by simp [intOf]; omega⟩
    · obtain rfl : i = n := by omega
      have HROW := Lib.hid hrow
      have HE := Lib.hid hE
      clear hrow hE
      go_wp2_with fail
      go_ret
      refine ⟨_, rfl, ?_, HE.out⟩
      have := HROW.out
      rw [List.take_of_length_le (by have := HL.out; omega)] at this
      exact this
set_option maxRecDepth 100000 in
set_option maxHeartbeats 1600000 in
theorem toS_any (v : Value) (n : Nat) (l : List Int) (w : World) (h : HoldsS w v n l) (hn : n ≤ 1000000) :
    Calls Tryd.prog 47 #[v] w fun r w' => ∃ v', r = .returned v' ∧ w'.ownsRow w.heap.size 33 16 v' n (bv l) ∧ Below w.heap.size w w' := by
  have HS := Lib.hid h
  obtain ⟨a, cap, rfl, hl, -⟩ := h
  have HL := Lib.hid hl
  obtain ⟨i0, hi, hz0, hz1, hz2⟩ := info_parts info33m
  clear hl
  go_enter Tryd.func47, Tryd.ntmps47
  go_wp2_with fail
  go_loopw [3, 8] (fun v c wr => ∃ i : Nat, i ≤ n ∧ c = .int .i64 i ∧ wr.ownsRow w.heap.size 33 16 v i (bv (l.take (i * 16))) ∧ Below w.heap.size w wr) (fun _ c _ => n - (intOf c).toNat)
  case atStart => exact ⟨0, by omega, rfl, World.ownsRow_nil _ _ _ _, Below.refl _ _⟩
  case round =>
    obtain ⟨i, hi', rfl, hrow, hE⟩ := hrel
    by_cases hlt : i < n
    · obtain ⟨b, off, rfl, hbl, hrange⟩ := (HS.out.keep hE).range hlt
      have hlp := segL_len HL.out hlt
      have HX := Lib.hid (take16 l i)
      generalize segL l i = p at hrange hlp HX
      have HR := Lib.hid hrange
      have HE := Lib.hid hE
      have HROW : Hid (((wr.alloc z49).setRow wr.heap.size (bv p).toArray).ownsRow w.heap.size 33 16 u3 i (bv (l.take (i * 16)))) := by
        unfold Hid
        rw [World.setRow_alloc_new]
        exact hrow.alloc _
      have HG : Hid (((wr.alloc z49).setRow wr.heap.size (bv p).toArray).heap[wr.heap.size]? = some (.cells (bv p).toArray 32 (0, 0))) := (Blk.new wr z49).setRow _
      have HE2 : Hid (Below w.heap.size w ((wr.alloc z49).setRow wr.heap.size (bv p).toArray)) := by
        unfold Hid
        exact Below.row (hE.alloc hE.size z49) hE.size _
      have hbs := build66 hlp
      have HC := Lib.hid (cells49 hlp)
      have HCL := Lib.hid (cellsL32 hlp)
      have HLP := Lib.hid hlp
      generalize bv (l.take (i * 16)) = xs at HROW HX hrow
      clear hrange hrow hE hlp
      go_wp2_with (first
        | (refine wpList_load_mid rfl 32 (.tmp 10) rfl b (off + i * 16) rfl (bv p) _ HR.out Tryd.underlying32 rfl HCL.out ?_)
        | (refine wpList_store_row rfl 32 (.tmp 5) (.tmp 11) rfl wr.heap.size (bv p).toArray rfl rfl 32 _ (Blk.new wr z49) HC.out (size50 HLP.out) (kv_all _ p) ?_)
        | (refine wpList_load_row rfl 32 (.tmp 5) rfl wr.heap.size rfl 32 (bv p).toArray (0, 0) _ HG.out Tryd.underlying32 rfl HC.out ?_)
        | (refine wpList_buildSlice_one rfl 66 1 (.tmp 13) rfl (dgV p) rfl _ _ (hbs _) ?_)
        | (at_builtin; refine wpList_append_own _ rfl _ _ 66 rfl w.heap.size 33 i0 _ 16 16 Tryd.underlying66 hi hz0 hz1 hz2 rfl (by decide) _ _ _ rfl (HROW.out.alloc _) ⟨((wr.alloc z49).setRow wr.heap.size (bv p).toArray).heap.size, 0, none⟩ 1 1 (bv p) rfl ?c0 (row_new _ _ _) ?c2 ?c3 ?c4 ?c5 ?_))
      case c0 => rw [bv_len, HLP.out]
      case c2 => exact bv_one _
      case c3 => unfold maxLen; omega
      case c4 => omega
      case c5 => have := HE2.out.size; simp at this ⊢; omega
      · intro v' w4 hown' hgrow _
        have HO4 := Lib.hid hown'
        have HB4 := Lib.hid (below_row_grown (HE2.out.alloc HE2.out.size _) (by have := HE2.out.size; simp at this ⊢; omega) (HROW.out.alloc _) hgrow)
        clear hown' hgrow hbs
        go_wp2_with fail
        exact ⟨⟨i + 1, by omega, by go_num, by have := HO4.out; rw [HX.out] at this; exact this, HB4.out⟩, by simp [intOf]; omega⟩
    · obtain rfl : i = n := by omega
      have HROW := Lib.hid hrow
      have HE := Lib.hid hE
      clear hrow hE
      go_wp2_with fail
      go_ret
      refine ⟨_, rfl, ?_, HE.out⟩
      have := HROW.out
      rw [List.take_of_length_le (by have := HL.out; omega)] at this
      exact this
theorem neq32 {p q : List Int} (hp : Bytes p) (hq : Bytes q) (h : p.length = 16) (g : q.length = 16) (w : World) : (binOp .neq 32 (dgV p) (dgV q)).run Tryd.prog w = .ok (.bool (!decide (p = q))) w := by
  have := run_equalIn_bytes (P := Tryd.prog) w 9998 32 5 16 Tryd.underlying32 Tryd.underlying5 size5 (p.map fun n => UInt8.ofNat n.toNat) (q.map fun n => UInt8.ofNat n.toNat) (by simp [h]) (by simp [g])
  rw [bv_cells hp, bv_cells hq] at this
  have e : ((p.map fun n => UInt8.ofNat n.toNat) == (q.map fun n => UInt8.ofNat n.toNat)) = decide (p = q) := by
    rw [Bool.eq_iff_iff, beq_iff_eq, decide_eq_true_iff]
    exact bytes_inj hp hq
  rw [e] at this
  rw [run_neq_struct, this]
  rfl
theorem exec_load_midS {P : Program} {o : Oper} {a : Act} {w : World} {ty : TypeId} {x : Operand} {b off : Nat} {cs : List Value} {d : TypeDesc} (ho : o.op = .load ty x) (hx : a.eval x = .pointer (some ⟨b, off, none⟩)) (hc : w.rangeAt b off cs)
    (hu : P.underlying ty = some d) (hd : d.isRow = true) (hi : (P.info? ty).map (·.size) = some cs.length) : (execOp a.eval o).run P w = .ok (.value (.agg cs.toArray)) w := by
  unfold execOp
  simp only [ho, hx, Instr.loadAt, Instr.sureAddr, Sem.run_bind, Sem.run_pure, Result.andThen_ok, run_loadVar_mid w b off ty cs d hc hu hd hi]
theorem take_seg (l : List Int) (i : Nat) : l.take ((i + 1) * 16) = l.take (i * 16) ++ segL l i := by
  unfold segL
  rw [show (i + 1) * 16 = i * 16 + 16 by omega, List.take_add]
theorem neg32 (p q : List Int) (x y : Operand) (w : World) : (eqGuard .neq 32 x y (dgV p) (dgV q)).run Tryd.prog w = .ok () w := by kernel_rfl
set_option maxRecDepth 100000 in
set_option maxHeartbeats 1600000 in
theorem sames_any (va vb : Value) (n m : Nat) (l k : List Int) (w : World) (ha : HoldsS w va n l) (hb : HoldsS w vb m k) (hn : n ≤ 1000000) (hm : m ≤ 1000000) :
    Calls Tryd.prog 49 #[va, vb] w fun r w' => r = .returned (.bool (decide (n = m ∧ l = k))) ∧ Below w.heap.size w w' := by
  have HA := Lib.hid ha
  have HB := Lib.hid hb
  obtain ⟨a, cap, rfl, hl, -, hby, -⟩ := ha
  obtain ⟨a2, cap2, rfl, hk, -, hby2, -⟩ := hb
  have HL := Lib.hid hl
  have HL2 := Lib.hid hk
  have HBY := Lib.hid hby
  have HBY2 := Lib.hid hby2
  clear hl hby hk hby2
  go_enter Tryd.func49, Tryd.ntmps49
  by_cases hnm : n = m
  · subst hnm
    have HD : Hid (decide (n = n ∧ l = k) = decide (l = k)) := by
      unfold Hid
      simp
    rw [HD.out]
    have tn : ((n : Int) != (n : Int)) = false := by simp
    go_wp2_with fail
    clear tn
    go_loopw [5] (fun c wr => ∃ i : Nat, i ≤ n ∧ c = .int .i64 i ∧ Hid (l.take (i * 16) = k.take (i * 16)) ∧ Below w.heap.size w wr) (fun c _ => n - (intOf c).toNat)
    case atStart => exact ⟨0, by omega, rfl, by unfold Hid; simp, Below.refl _ _⟩
    case round =>
      obtain ⟨i, hi', rfl, HT, hE⟩ := hrel
      by_cases hlt : i < n
      · obtain ⟨b, off, rfl, hbl, hrange⟩ := (HA.out.keep hE).range hlt
        obtain ⟨b2, off2, rfl, hbl2, hrange2⟩ := (HB.out.keep hE).range hlt
        have hlp := segL_len HL.out hlt
        have hlq := segL_len HL2.out hlt
        have heq := Lib.hid (neq32 (HBY.out.seg i) (HBY2.out.seg i) hlp hlq)
        have HT1 := Lib.hid (take_seg l i)
        have HT2 := Lib.hid (take_seg k i)
        have HNE : Hid (segL l i ≠ segL k i → l ≠ k) := by
          unfold Hid
          intro h e
          exact h (by rw [e])
        generalize segL l i = p at hrange hlp heq HT1 HNE
        generalize segL k i = q at hrange2 hlq heq HT2 HNE
        have HCL := Lib.hid (cellsL32 hlp)
        have HCL2 := Lib.hid (cellsL32 hlq)
        have HE := Lib.hid hE
        have HR := Lib.hid (And.intro hrange hrange2)
        have HBL := Lib.hid (And.intro hbl hbl2)
        clear hrange hrange2 hE hbl hbl2 hlp hlq
        go_wp2_with fail
        refine wp_region_flow (fun w' => Below w.heap.size w w' ∧ wr.heap.size ≤ w'.heap.size ∧ w'.rangeAt b (off + i * 16) (bv p) ∧ w'.rangeAt b2 (off2 + i * 16) (bv q)) (by kernel_rfl) (by kernel_rfl) (by kernel_rfl)
          (fun w1 w2 h hb => ⟨h.1.trans (hb.mono h.1.size), Nat.le_trans h.2.1 hb.size, fun j v hv => (hb.cell (p := ⟨b, off + i * 16 + j, none⟩) (by have := HBL.out.1; have := h.2.1; show b < _; omega)).trans (h.2.2.1 j v hv), fun j v hv => (hb.cell (p := ⟨b2, off2 + i * 16 + j, none⟩) (by have := HBL.out.2; have := h.2.1; show b2 < _; omega)).trans (h.2.2.2 j v hv)⟩)
          ⟨HE.out.drew, Nat.le_refl _, HR.out.1, HR.out.2⟩ ?_
        repeat (first
          | (apply Flow.value
             · rfl
             · (intro wx hS; exact exec_load_midS (b := b) rfl rfl hS.2.2.1 Tryd.underlying32 rfl HCL.out)
             try simp only [Act.put, List.setIfInBounds_toArray, List.set_cons_zero, List.set_cons_succ])
          | (apply Flow.value
             · rfl
             · (intro wx hS; exact exec_load_midS (b := b2) rfl rfl hS.2.2.2 Tryd.underlying32 rfl HCL2.out)
             try simp only [Act.put, List.setIfInBounds_toArray, List.set_cons_zero, List.set_cons_succ])
          | (apply Flow.value
             · rfl
             · (intro wx hS; clear hS; have hq := heq.out; have hg := neg32; go_simp; with_reducible rfl)
             try simp only [Act.put, List.setIfInBounds_toArray, List.set_cons_zero, List.set_cons_succ]))
        refine Flow.done ?_
        intro w4 hS
        have HE4 := Lib.hid hS.1
        clear hS heq
        by_cases hpq : p = q
        · have hd : decide (p = q) = true := by simp [hpq]
          have HT3 : Hid (l.take ((i + 1) * 16) = k.take ((i + 1) * 16)) := by
            unfold Hid
            rw [HT1.out, HT2.out, HT.out, hpq]
          rw [hd]
          clear hpq hd
          go_wp2_with fail
          exact ⟨⟨i + 1, by omega, by go_num, HT3, HE4.out⟩, by simp [intOf]; omega⟩
        · have hd : decide (p = q) = false := by simp [hpq]
          have HF : Hid (decide (l = k) = false) := by
            unfold Hid
            simpa using HNE.out hpq
          rw [hd]
          clear hpq hd
          go_wp2_with fail
          go_ret
          exact ⟨retb HF.out.symm, HE4.out⟩
      · obtain rfl : i = n := by omega
        have HE := Lib.hid hE
        have HF : Hid (decide (l = k) = true) := by
          unfold Hid
          have h := HT.out
          rw [List.take_of_length_le (by have := HL.out; omega), List.take_of_length_le (by have := HL2.out; omega)] at h
          simpa using h
        clear hE
        go_wp2_with fail
        go_ret
        exact ⟨retb HF.out.symm, HE.out⟩
  · have HF : Hid (decide (n = m ∧ l = k) = false) := by
      unfold Hid
      simp [hnm]
    have tn : ((n : Int) != (m : Int)) = true := by simp; omega
    go_wp2_with fail
    go_ret
    exact ⟨retb HF.out.symm, Below.refl _ _⟩
end Go.Proofs.YtahmioiefmheeaaDoor

namespace Go.Proofs.YtahmioiefmheeaaDoor
open Go.RowKit

/-- What a leaf and the sums beside its way lead to. -/
def foldL (d e : Int) (x : List Int) (j : Nat) (p : List Int) : Nat → List Int
  | 0 => x
  | l + 1 => if j / 2 ^ l % 2 = 1 then shortL (aboveT d e (l + 1) (segL p l) (foldL d e x j p l)) else shortL (aboveT d e (l + 1) (foldL d e x j p l) (segL p l))
theorem foldL_len (d e : Int) (x : List Int) (j : Nat) (p : List Int) (hx : x.length = 16) : ∀ l, (foldL d e x j p l).length = 16
  | 0 => hx
  | l + 1 => by
    rw [foldL]
    split <;> exact shortL_len _
theorem foldL_bytes (d e : Int) (x : List Int) (j : Nat) (p : List Int) (hx : Bytes x) : ∀ l, Bytes (foldL d e x j p l)
  | 0 => hx
  | l + 1 => by
    rw [foldL]
    split <;> exact shortL_bytes _
def foldOk (i : Int) (n : Nat) : Bool := decide (0 ≤ i) && decide (n ≤ 6) && decide (i < 2 ^ n)
def foldS (d e : Int) (x : List Int) (i : Int) (p : List Int) (n : Nat) : List Int := if foldOk i n then foldL d e x i.toNat p n else fill 16 []
def foldF (i : Int) (n : Nat) : Int := if foldOk i n then 0 else 1
theorem foldS_len (d e : Int) (x : List Int) (i : Int) (p : List Int) (n : Nat) (hx : x.length = 16) : (foldS d e x i p n).length = 16 := by
  unfold foldS
  split
  · exact foldL_len _ _ _ _ _ hx _
  · rfl
theorem foldS_bytes (d e : Int) (x : List Int) (i : Int) (p : List Int) (n : Nat) (hx : Bytes x) : Bytes (foldS d e x i p n) := by
  unfold foldS
  split
  · exact foldL_bytes _ _ _ _ _ hx _
  · exact fill_bytes (fun x hx => by simp at hx)
theorem results_fold {w : World} {g : Nat} {z : List Int} {q : Int} {tmps : Array Value} (h8 : tmps.getD 10 undef = .pointer (some ⟨g, 0, none⟩)) (h9 : tmps.getD 11 undef = .int .i64 q) (hr : Row w g 33 .u8 z) (hz : z.length = 16) :
    (results Tryd.f68 tmps).run Tryd.prog w = .ok (.tuple #[dgV z, .int .i64 q]) w :=
  results_row_tmp rfl _ _ g 33 _ (0, 0) _ _ h8 h9 hr Tryd.underlying33 rfl (cells50 hz)
theorem shl_one {n : Nat} (h : n ≤ 6) : IntKind.i64.wrap (2 ^ n : Int) = 2 ^ n := by
  have h2 : n = 0 ∨ n = 1 ∨ n = 2 ∨ n = 3 ∨ n = 4 ∨ n = 5 ∨ n = 6 := by omega
  rcases h2 with rfl | rfl | rfl | rfl | rfl | rfl | rfl <;> decide
theorem ex_world {Q : Exit → Act → World → Prop} {x : Exit} {a : Act} {w : World} (F : World → Prop) (hF : F w) (h : ∀ w2, F w2 → Q x a w2) : Q x a w := h w hF
set_option maxRecDepth 100000 in
set_option maxHeartbeats 2000000 in
theorem fold_any (d e i : Int) (x : List Int) (a : Option Addr) (n cap : Nat) (p : List Int) (w : World) (hk : KonIs w) (he : 0 ≤ e ∧ e < 4294967296) (hx : x.length = 16) (hxb : Bytes x) (hp : HoldsS w (.slice a n cap) n p) :
    Calls Tryd.prog 68 #[.int .i64 d, .int .u32 e, .int .i64 i, dgV x, .slice a n cap] w fun q w' => q = .returned (.tuple #[dgV (foldS d e x i p n), .int .i64 (foldF i n)]) ∧ Below w.heap.size w w' := by
  have HK := Kp.mk hk
  have HE := Kp.mk he
  have HX := Kp.mk hx
  have HXB := Kp.mk hxb
  have HP := Kp.mk hp
  have HPl : Kp (p.length = n * 16 ∧ Bytes p) := ⟨by obtain ⟨_, _, _, h1, _, h2, _⟩ := hp; exact ⟨h1, h2⟩⟩
  clear hk he hx hxb hp
  obtain ⟨A, hA⟩ : ∃ A, A = w.heap.size := ⟨_, rfl⟩
  have HA := Kp.mk hA
  have HZ0 : Kp ((fill 16 [] : List Int).length = 16) := ⟨rfl⟩
  by_cases h0 : i < 0
  · have HU : Kp (foldS d e x i p n = fill 16 [] ∧ foldF i n = 1) := ⟨by
      have : foldOk i n = false := by simp [foldOk]; omega
      simp [foldS, foldF, this]⟩
    go_enter Tryd.func68, Tryd.ntmps68
    go_wp2_with fail
    exact bodyPost_ret (results_fold (g := w.heap.size + 1) rfl rfl (show Row _ (w.heap.size + 1) 33 .u8 (fill 16 []) from Blk.newAt _ (by simp)) HZ0.out) rfl ⟨by rw [HU.out.1, HU.out.2], more (more (Below.refl _ _) _) _⟩
  by_cases h1 : 6 < n
  · have HU : Kp (foldS d e x i p n = fill 16 [] ∧ foldF i n = 1) := ⟨by
      have : foldOk i n = false := by simp [foldOk]; omega
      simp [foldS, foldF, this]⟩
    have h2 : 0 ≤ i := by omega
    have h3 : (6 : Int) < (n : Int) := by omega
    go_enter Tryd.func68, Tryd.ntmps68
    go_wp2_with fail
    exact bodyPost_ret (results_fold (g := w.heap.size + 1) rfl rfl (show Row _ (w.heap.size + 1) 33 .u8 (fill 16 []) from Blk.newAt _ (by simp)) HZ0.out) rfl ⟨by rw [HU.out.1, HU.out.2], more (more (Below.refl _ _) _) _⟩
  have hn := shl_one (n := n) (by omega)
  have hn6 : (n : Int) ≤ 6 := by omega
  by_cases h2 : (2 ^ n : Int) ≤ i
  · have HU : Kp (foldS d e x i p n = fill 16 [] ∧ foldF i n = 1) := ⟨by
      have : foldOk i n = false := by simp [foldOk]; omega
      simp [foldS, foldF, this]⟩
    have h3 : 0 ≤ i := by omega
    go_enter Tryd.func68, Tryd.ntmps68
    go_wp2_with fail
    exact bodyPost_ret (results_fold (g := w.heap.size + 1) rfl rfl (show Row _ (w.heap.size + 1) 33 .u8 (fill 16 []) from Blk.newAt _ (by simp)) HZ0.out) rfl ⟨by rw [HU.out.1, HU.out.2], more (more (Below.refl _ _) _) _⟩
  obtain ⟨j, rfl⟩ : ∃ j : Nat, i = j := ⟨i.toNat, by omega⟩
  have HU : Kp (foldS d e x j p n = foldL d e x j p n ∧ foldF j n = 0) := ⟨by
    have : foldOk j n = true := by simp [foldOk]; omega
    simp [foldS, foldF, this]⟩
  have HJ : Kp ((j : Int) < 2 ^ n) := ⟨by omega⟩
  have hn6 : n ≤ 6 := by omega
  have t0 : decide ((j : Int) < 0) = false := by simp
  have t6 : decide ((6 : Int) < (n : Int)) = false := by simp; omega
  have t2 : decide ((2 : Int) ^ n ≤ (j : Int)) = false := by simp; omega
  clear h0 h1 h2
  obtain ⟨W1, hW1⟩ : ∃ W1, W1 = (((w.alloc (.cells (kv .u8 x).toArray 33)).alloc z50).alloc z50).setRow (w.heap.size + 1 + 1) (kv .u8 x).toArray := ⟨_, rfl⟩
  have G1 : Kp (Row W1 (A + 1) 33 .u8 (fill 16 [])) := ⟨by rw [hW1, hA]; exact Row.otherRow (Blk.old (Blk.newAt _ (by simp)) _) (by omega) _⟩
  have G2 : Kp (Row W1 (A + 1 + 1) 33 .u8 x) := ⟨by rw [hW1, hA]; exact Row.setRow (k := .u8) (l := fill 16 []) (Blk.newAt z50 (by simp)) _⟩
  have G3 : Kp (Below A w W1) := ⟨by rw [hW1, hA]; exact Below.row (more (more (more (Below.refl _ _) _) _) _) (by omega) _⟩
  go_enter Tryd.func68, Tryd.ntmps68
  go_wp2_with first
    | (refine wpList_load_row rfl 33 (.tmp 8) rfl w.heap.size rfl 33 _ (0, 0) _ (show Row _ w.heap.size 33 .u8 x from Blk.old (Blk.newAt _ rfl) _) Tryd.underlying33 rfl (cells50 HX.out) ?_)
    | (refine wpList_store_row rfl 33 (.tmp 12) (.tmp 32) rfl (w.heap.size + 1 + 1) (kv .u8 x).toArray rfl rfl 33 _ (Blk.newAt z50 (by simp)) (cells50 HX.out) (size50 HX.out) (kv_all _ _) ?_; refine wpl_world (· = W1) hW1.symm ?_; clear hW1; intro W0 e0; rw [e0]; clear e0)
  rw [← HA.out]
  clear t0 t6 t2 hn hA
  go_loopw [2, 13, 14, 15, 16, 35] (fun u _ _ _ _ c wr => ∃ l q : Nat, l ≤ n ∧ c = .int .i64 l ∧ u = .int .i64 q ∧ Kp (q = j / 2 ^ l) ∧ Row wr (A + 1) 33 .u8 (fill 16 []) ∧ Row wr (A + 1 + 1) 33 .u8 (foldL d e x j p l) ∧ Below A w wr) (fun _ _ _ _ _ c _ => n - (intOf c).toNat)
  case atStart => exact ⟨0, j, by omega, rfl, rfl, ⟨by simp⟩, G1.out, G2.out, G3.out⟩
  case round =>
    obtain ⟨l, q, hl, rfl, rfl, HQ, g1, g2, g3⟩ := hrel
    clear G1 G2 G3
    have G1 := Kp.mk g1
    have G2 := Kp.mk g2
    have G3 := Kp.mk g3
    clear g1 g2 g3
    have HYl := Kp.mk (foldL_len d e x j p HX.out l)
    have HYb := Kp.mk (foldL_bytes d e x j p HXB.out l)
    have HRe : Kp (foldL d e x j p (l + 1) = if j / 2 ^ l % 2 = 1 then shortL (aboveT d e (l + 1) (segL p l) (foldL d e x j p l)) else shortL (aboveT d e (l + 1) (foldL d e x j p l) (segL p l))) := ⟨rfl⟩
    obtain ⟨y, hy⟩ : ∃ y, y = foldL d e x j p l := ⟨_, rfl⟩
    rw [← hy] at G2 HYl HYb HRe
    have HYe := Kp.mk hy
    clear hy
    by_cases hlt : l < n
    · obtain ⟨b, off, rfl, hbl, hrange⟩ := (HP.out.keep (by rw [← HA.out]; exact G3.out)).range hlt
      have HZl := Kp.mk (segL_len HPl.out.1 hlt)
      have HZb := Kp.mk (HPl.out.2.seg l)
      obtain ⟨z, hz⟩ : ∃ z, z = segL p l := ⟨_, rfl⟩
      rw [← hz] at HRe HZl HZb hrange
      have HRe0 := Kp.mk hz
      clear hz
      have HR := Kp.mk hrange
      have hE0 : A + 1 + 1 < wr.heap.size := G2.out.lt
      clear hrange hbl
      obtain ⟨W2, hW2⟩ : ∃ W2, W2 = (wr.alloc z50).setRow wr.heap.size (kv .u8 z).toArray := ⟨_, rfl⟩
      have X1 : Kp (Row W2 wr.heap.size 33 .u8 z) := ⟨by rw [hW2]; exact Row.setRow (k := .u8) (l := fill 16 []) (Blk.new wr z50) _⟩
      have D2 : Kp (Row W2 (A + 1 + 1) 33 .u8 y) := ⟨by rw [hW2]; exact Row.otherRow (Row.alloc G2.out _) (by omega) _⟩
      have D3 : Kp (Row W2 (A + 1) 33 .u8 (fill 16 [])) := ⟨by rw [hW2]; exact Row.otherRow (Row.alloc G1.out _) (by omega) _⟩
      have D4 : Kp (Below A w W2) := ⟨by rw [hW2]; exact Below.row (G3.out.alloc (by omega) _) (by omega) _⟩
      have hSz : W2.heap.size = wr.heap.size + 1 := by rw [hW2]; simp [World.setRow]
      have HSz := Kp.mk hSz
      obtain ⟨E, hE⟩ : ∃ E, E = wr.heap.size := ⟨_, rfl⟩
      have HEe := Kp.mk hE
      rw [← hE] at X1 hE0
      have hES0 : E < W2.heap.size := by omega
      clear hE G1 G2 G3 hSz
      go_wp2_with first
        | (refine wpList_load_mid rfl 33 (.tmp 38) rfl b (off + l * 16) rfl (kv .u8 z) _ HR.out Tryd.underlying33 rfl (by rw [info33L, List.length_map, HZl.out]) ?_)
        | (refine wpList_store_row rfl 33 (.tmp 14) (.tmp 39) rfl wr.heap.size (kv .u8 z).toArray rfl rfl 33 _ (Blk.new wr z50) (cells50 HZl.out) (size50 HZl.out) (kv_all _ _) ?_; refine wpl_world (· = W2) hW2.symm ?_; clear hW2; intro W0 e0; rw [e0]; clear e0; rw [← HEe.out]; clear HEe)
      refine wp_region_held_drew (S := fun w' => Row w' (A + 1 + 1) 33 .u8 y ∧ Row w' E 33 .u8 z ∧ Row w' (A + 1) 33 .u8 (fill 16 []) ∧ Below A w w') (by kernel_rfl) ⟨D2.out.drew, X1.out.drew, D3.out.drew, D4.out.drew⟩ (fun hH => ?_)
      refine wpAnyH_take (i := 0) (oi := { dst := some 40, op := Go.Op.load 33 (Go.Operand.tmp 12), type := 33, pos := "grove.go:100", after := #[], guard := none }) (v := dgV y) rfl (by kernel_rfl) (by kernel_rfl) (by kernel_rfl) (fun _ _ _ h => h) (Or.inl ⟨by rfl, fun w hS => exec_load_blk 33 (.tmp 12) rfl (A + 1 + 1) rfl 33 _ (0, 0) _ hS.1 Tryd.underlying33 rfl (cells50 HYl.out)⟩) hH ?_
      simp only [Act.put, List.setIfInBounds_toArray, List.set_cons_zero, List.set_cons_succ]
      refine wpAnyH_take (i := 1) (oi := { dst := some 41, op := Go.Op.load 33 (Go.Operand.tmp 14), type := 33, pos := "grove.go:100", after := #[{ on := 4, ground := Go.Ground.gcOnly Go.Departure.lateStores }], guard := none }) (v := dgV z) rfl (by kernel_rfl) (by kernel_rfl) (by kernel_rfl) (fun _ _ _ h => h) (Or.inl ⟨by rfl, fun w hS => exec_load_blk 33 (.tmp 14) rfl (E) rfl 33 _ (0, 0) _ hS.2.1 Tryd.underlying33 rfl (cells50 HZl.out)⟩) hH ?_
      simp only [Act.put, List.setIfInBounds_toArray, List.set_cons_zero, List.set_cons_succ]
      clear D2 D3 D4 X1
      refine wpAnyH_ready (rs := [2, 3]) (by kernel_rfl) (by simp) ?_
      refine AllReadyH.cons (o := { dst := some 15, op := Go.Op.alloc 33, type := 0, pos := "grove.go:100", after := #[], guard := none }) rfl (fun K hK => ?_) (AllReadyH.cons (o := { dst := some 16, op := Go.Op.alloc 33, type := 0, pos := "grove.go:100", after := #[], guard := none }) rfl (fun K hK => ?_) AllReadyH.nil)
      · go_simp
        refine hK.out _ _ ⟨Row.alloc hH.1 _, Row.alloc hH.2.1 _, Row.alloc hH.2.2.1 _, hH.2.2.2.alloc (by have := hH.1.lt; omega) _⟩ (fun hH2 => ?_)
        clear hK K
        try simp only [Act.put, List.setIfInBounds_toArray, List.set_cons_zero, List.set_cons_succ]
        clear hH
        refine wpAnyH_ready (rs := [3]) (by kernel_rfl) (by simp) ?_
        refine AllReadyH.cons (o := { dst := some 16, op := Go.Op.alloc 33, type := 0, pos := "grove.go:100", after := #[], guard := none }) rfl (fun K hK => ?_) AllReadyH.nil
        go_simp
        refine hK.out _ _ ⟨Row.alloc hH2.1 _, Row.alloc hH2.2.1 _, Row.alloc hH2.2.2.1 _, hH2.2.2.2.alloc (by have := hH2.1.lt; omega) _⟩ (fun hH => ?_)
        clear hK K
        try simp only [Act.put, List.setIfInBounds_toArray, List.set_cons_zero, List.set_cons_succ]
        clear hH2
        obtain ⟨F, hF⟩ : ∃ F, F = W2.heap.size := ⟨_, rfl⟩
        obtain ⟨S, hS⟩ : ∃ S, S = W2.heap.size + 1 := ⟨_, rfl⟩
        have HD : Kp (F ≠ S ∧ E < F ∧ E < S ∧ A + 1 + 1 < E) := ⟨by rw [hF, hS]; exact ⟨by omega, by omega, by omega, hE0⟩⟩
        have M4 : Kp (Row ((W2.drew.alloc z50).alloc z50) F 33 .u8 (fill 16 [])) := ⟨by rw [hF]; exact Blk.old (Blk.newAt _ rfl) _⟩
        have M5 : Kp (Row ((W2.drew.alloc z50).alloc z50) S 33 .u8 (fill 16 [])) := ⟨by rw [hS]; exact Blk.newAt _ (by simp)⟩
        rw [← hS, ← hF]
        have MH := Kp.mk hH
        clear hH hF hS
        obtain ⟨hFS, hEF, hES, hAE⟩ := HD.out
        refine wpAnyH_ready (rs := [4]) (by kernel_rfl) (by simp) ?_
        refine AllReadyH.cons (o := { dst := none, op := Go.Op.store 33 (Go.Operand.tmp 15) (Go.Operand.tmp 40), type := 0, pos := "grove.go:100", after := #[{ on := 2, ground := Go.Ground.data }, { on := 0, ground := Go.Ground.data }, { on := 0, ground := Go.Ground.phase }, { on := 1, ground := Go.Ground.textOnly Go.Departure.lateStores }, { on := 2, ground := Go.Ground.phase }, { on := 3, ground := Go.Ground.phase }], guard := none }) rfl (fun K hK => ?_) AllReadyH.nil
        rw [if_pos (by rfl)]
        refine wp_store_row 33 (.tmp 15) (.tmp 40) rfl F (kv .u8 y).toArray rfl rfl 33 _ M4.out (cells50 HYl.out) (size50 HYl.out) (kv_all _ _) ?_
        refine hK.out _ _ ⟨Row.otherRow MH.out.1 (by omega) _, Row.otherRow MH.out.2.1 (by omega) _, Row.otherRow MH.out.2.2.1 (by omega) _, Below.row MH.out.2.2.2 (by omega) _⟩ (fun hH2 => ?_)
        clear hK K
        try simp only [Act.put, List.setIfInBounds_toArray, List.set_cons_zero, List.set_cons_succ]
        have L4 := Kp.mk (M4.out.setRow y)
        have L5 := Kp.mk (Row.otherRow (g := F) M5.out (by omega) (kv .u8 y).toArray)
        refine wpAnyH_ready (rs := [5]) (by kernel_rfl) (by simp) ?_
        refine AllReadyH.cons (o := { dst := none, op := Go.Op.store 33 (Go.Operand.tmp 16) (Go.Operand.tmp 41), type := 0, pos := "grove.go:100", after := #[{ on := 3, ground := Go.Ground.data }, { on := 1, ground := Go.Ground.data }, { on := 4, ground := Go.Ground.chain }, { on := 0, ground := Go.Ground.phase }, { on := 1, ground := Go.Ground.phase }, { on := 2, ground := Go.Ground.phase }, { on := 3, ground := Go.Ground.phase }, { on := 4, ground := Go.Ground.phase }], guard := none }) rfl (fun K hK => ?_) AllReadyH.nil
        rw [if_pos (by rfl)]
        refine wp_store_row 33 (.tmp 16) (.tmp 41) rfl S (kv .u8 z).toArray rfl rfl 33 _ L5.out (cells50 HZl.out) (size50 HZl.out) (kv_all _ _) ?_
        refine hK.out _ _ ⟨Row.otherRow hH2.1 (by omega) _, Row.otherRow hH2.2.1 (by omega) _, Row.otherRow hH2.2.2.1 (by omega) _, Below.row hH2.2.2.2 (by omega) _⟩ (fun hH => ?_)
        clear hK K
        try simp only [Act.put, List.setIfInBounds_toArray, List.set_cons_zero, List.set_cons_succ]
        have N4 := Kp.mk (Row.otherRow (g := S) L4.out (by omega) (kv .u8 z).toArray)
        have N5 := Kp.mk (L5.out.setRow z)
        have NH := Kp.mk hH
        clear hH hH2
        refine wpAnyH_done (by kernel_rfl) ?_ _
        refine ex_world (fun W => Row W (A + 1) 33 .u8 (fill 16 []) ∧ Row W (A + 1 + 1) 33 .u8 y ∧ Row W E 33 .u8 z ∧ Row W F 33 .u8 y ∧ Row W S 33 .u8 z ∧ Below A w W) ⟨NH.out.2.2.1, NH.out.1, NH.out.2.1, N4.out, N5.out, NH.out.2.2.2⟩ ?_
        clear M4 M5 MH L4 L5 N4 N5 NH HD
        rintro W3 ⟨k1, k2, k3, k4, k5, k6⟩
        have K1 := Kp.mk k1
        have K2 := Kp.mk k2
        have K3 := Kp.mk k3
        have K4 := Kp.mk k4
        have K5 := Kp.mk k5
        have K6 := Kp.mk k6
        clear k1 k2 k3 k4 k5 k6
        have hq64 : q < 64 := by
          have h1 := HJ.out
          have h2 : n = 0 ∨ n = 1 ∨ n = 2 ∨ n = 3 ∨ n = 4 ∨ n = 5 ∨ n = 6 := by omega
          have h3 : j < 64 := by rcases h2 with rfl | rfl | rfl | rfl | rfl | rfl | rfl <;> (simp at h1; omega)
          rw [HQ.out]
          exact Nat.lt_of_le_of_lt (Nat.div_le_self _ _) h3
        have HQn : Kp (q / 2 = j / 2 ^ (l + 1)) := ⟨by rw [HQ.out, Nat.pow_succ, Nat.div_div_eq_div_mul]⟩
        by_cases hpr : q % 2 = 1
        · have HPar : Kp (j / 2 ^ l % 2 = 1) := ⟨by rw [← HQ.out]; exact hpr⟩
          rw [if_pos HPar.out] at HRe
          have ht : (q : Int).tmod 2 = 1 := by rw [Int.tmod_eq_emod_of_nonneg (by omega)]; omega
          go_wp2_with fail
          clear ht
          refine wp_region_held_drew (S := fun w' => Row w' (A + 1 + 1) 33 .u8 y ∧ Row w' E 33 .u8 z ∧ Row w' (A + 1) 33 .u8 (fill 16 []) ∧ Below A w w') (by kernel_rfl) ⟨K2.out.drew, K3.out.drew, K1.out.drew, K6.out.drew⟩ (fun hH => ?_)
          refine wpAnyH_take (i := 0) (oi := { dst := some 45, op := Go.Op.load 33 (Go.Operand.tmp 14), type := 33, pos := "grove.go:102", after := #[], guard := none }) (v := dgV z) rfl (by kernel_rfl) (by kernel_rfl) (by kernel_rfl) (fun _ _ _ h => h) (Or.inl ⟨by rfl, fun w hS => exec_load_blk 33 (.tmp 14) rfl (E) rfl 33 _ (0, 0) _ hS.2.1 Tryd.underlying33 rfl (cells50 HZl.out)⟩) hH ?_
          simp only [Act.put, List.setIfInBounds_toArray, List.set_cons_zero, List.set_cons_succ]
          refine wpAnyH_take (i := 1) (oi := { dst := some 46, op := Go.Op.load 33 (Go.Operand.tmp 12), type := 33, pos := "grove.go:102", after := #[{ on := 2, ground := Go.Ground.gcOnly Go.Departure.lateStores }], guard := none }) (v := dgV y) rfl (by kernel_rfl) (by kernel_rfl) (by kernel_rfl) (fun _ _ _ h => h) (Or.inl ⟨by rfl, fun w hS => exec_load_blk 33 (.tmp 12) rfl (A + 1 + 1) rfl 33 _ (0, 0) _ hS.1 Tryd.underlying33 rfl (cells50 HYl.out)⟩) hH ?_
          simp only [Act.put, List.setIfInBounds_toArray, List.set_cons_zero, List.set_cons_succ]
          have M4 := Kp.mk (K4.out.drew)
          have M5 := Kp.mk (K5.out.drew)
          refine wpAnyH_ready (rs := [2]) (by kernel_rfl) (by simp) ?_
          refine AllReadyH.cons (o := { dst := none, op := Go.Op.store 33 (Go.Operand.tmp 15) (Go.Operand.tmp 45), type := 0, pos := "grove.go:102", after := #[{ on := 0, ground := Go.Ground.data }, { on := 0, ground := Go.Ground.phase }, { on := 1, ground := Go.Ground.textOnly Go.Departure.lateStores }], guard := none }) rfl (fun K hK => ?_) AllReadyH.nil
          rw [if_pos (by rfl)]
          refine wp_store_row 33 (.tmp 15) (.tmp 45) rfl F (kv .u8 z).toArray rfl rfl 33 _ M4.out (cells50 HZl.out) (by rw [kv_size, kv_size, HYl.out, HZl.out]) (kv_all _ _) ?_
          refine hK.out _ _ ⟨Row.otherRow hH.1 (by omega) _, Row.otherRow hH.2.1 (by omega) _, Row.otherRow hH.2.2.1 (by omega) _, Below.row hH.2.2.2 (by omega) _⟩ (fun hH2 => ?_)
          clear hK K
          try simp only [Act.put, List.setIfInBounds_toArray, List.set_cons_zero, List.set_cons_succ]
          have L4 := Kp.mk (M4.out.setRow z)
          have L5 := Kp.mk (Row.otherRow (g := F) M5.out (by omega) (kv .u8 z).toArray)
          clear hH
          refine wpAnyH_ready (rs := [3]) (by kernel_rfl) (by simp) ?_
          refine AllReadyH.cons (o := { dst := none, op := Go.Op.store 33 (Go.Operand.tmp 16) (Go.Operand.tmp 46), type := 0, pos := "grove.go:102", after := #[{ on := 1, ground := Go.Ground.data }, { on := 2, ground := Go.Ground.chain }, { on := 0, ground := Go.Ground.phase }, { on := 1, ground := Go.Ground.phase }, { on := 2, ground := Go.Ground.phase }], guard := none }) rfl (fun K hK => ?_) AllReadyH.nil
          rw [if_pos (by rfl)]
          refine wp_store_row 33 (.tmp 16) (.tmp 46) rfl S (kv .u8 y).toArray rfl rfl 33 _ L5.out (cells50 HYl.out) (by rw [kv_size, kv_size, HYl.out, HZl.out]) (kv_all _ _) ?_
          refine hK.out _ _ ⟨Row.otherRow hH2.1 (by omega) _, Row.otherRow hH2.2.1 (by omega) _, Row.otherRow hH2.2.2.1 (by omega) _, Below.row hH2.2.2.2 (by omega) _⟩ (fun hH => ?_)
          clear hK K
          try simp only [Act.put, List.setIfInBounds_toArray, List.set_cons_zero, List.set_cons_succ]
          have N4 := Kp.mk (Row.otherRow (g := S) L4.out (by omega) (kv .u8 y).toArray)
          have N5 := Kp.mk (L5.out.setRow y)
          have NH := Kp.mk hH
          clear hH hH2
          refine wpAnyH_done (by kernel_rfl) ?_ _
          refine ex_world (fun W => Row W (A + 1) 33 .u8 (fill 16 []) ∧ Row W (A + 1 + 1) 33 .u8 y ∧ Row W E 33 .u8 z ∧ Row W F 33 .u8 z ∧ Row W S 33 .u8 y ∧ Below A w W) ⟨NH.out.2.2.1, NH.out.1, NH.out.2.1, N4.out, N5.out, NH.out.2.2.2⟩ ?_
          clear K1 K2 K3 K4 K5 K6 M4 M5 L4 L5 N4 N5 NH
          rintro W4 ⟨k1, k2, k3, k4, k5, k6⟩
          have K1 := Kp.mk k1
          have K2 := Kp.mk k2
          have K4 := Kp.mk k4
          have K5 := Kp.mk k5
          have K6 := Kp.mk k6
          clear k1 k2 k3 k4 k5 k6
          have e1 : IntKind.i64.wrap ((l : Int) + 1) = (l : Int) + 1 := IntWalk.i64_in _ (by omega)
          go_wp2_with first
            | (refine wpList_load_row rfl 33 (.tmp 15) rfl F rfl 33 _ (0, 0) _ K4.out Tryd.underlying33 rfl (cells50 HZl.out) ?_)
            | (refine wpList_load_row rfl 33 (.tmp 16) rfl S rfl 33 _ (0, 0) _ K5.out Tryd.underlying33 rfl (cells50 HYl.out) ?_)
          clear e1
          refine (above_any d e ((l : Int) + 1) z y W4 (HK.out.keep (by rw [← HA.out]; exact K6.out)) HE.out HZl.out HZb.out HYl.out HYb.out).mono ?_
          rintro qr w1 ⟨rfl, hb⟩
          have F1 := Kp.mk (K1.out.keep hb)
          have F2 := Kp.mk (K2.out.keep hb)
          have F4 : Kp (Below A w w1) := ⟨K6.out.trans (hb.mono (by have := K1.out.lt; omega))⟩
          have HQl := Kp.mk (shortL_len (aboveT d e ((l : Int) + 1) z y))
          clear hb K1 K2 K4 K5 K6
          rw [← HRe.out]
          rw [← HRe.out] at HQl
          generalize foldL d e x j p (l + 1) = u at HRe HQl ⊢
          have hq2 : (q : Int).tdiv 2 = ((q / 2 : Nat) : Int) := by rw [Int.tdiv_eq_ediv_of_nonneg (by omega)]; omega
          go_wp2_with (refine wpList_store_row rfl 33 (.tmp 12) (.tmp 53) rfl (A + 1 + 1) (kv .u8 u).toArray rfl rfl 33 _ F2.out (cells50 HQl.out) (by rw [kv_size, kv_size, HYl.out, HQl.out]) (kv_all _ _) ?_)
          exact ⟨⟨l + 1, q / 2, by omega, by go_num, rfl, HQn, Row.otherRow F1.out (by omega) _, by rw [foldL, if_pos HPar.out, ← HYe.out, ← HRe0.out, ← HRe.out]; exact F2.out.setRow u, Below.row F4.out (by omega) _⟩, by simp [intOf]; omega⟩
        · have HPar : Kp (¬ j / 2 ^ l % 2 = 1) := ⟨by rw [← HQ.out]; exact hpr⟩
          rw [if_neg HPar.out] at HRe
          have ht : (q : Int).tmod 2 = 0 := by rw [Int.tmod_eq_emod_of_nonneg (by omega)]; omega
          have e1 : IntKind.i64.wrap ((l : Int) + 1) = (l : Int) + 1 := IntWalk.i64_in _ (by omega)
          go_wp2_with first
            | (refine wpList_load_row rfl 33 (.tmp 15) rfl F rfl 33 _ (0, 0) _ K4.out Tryd.underlying33 rfl (cells50 HYl.out) ?_)
            | (refine wpList_load_row rfl 33 (.tmp 16) rfl S rfl 33 _ (0, 0) _ K5.out Tryd.underlying33 rfl (cells50 HZl.out) ?_)
          clear e1
          refine (above_any d e ((l : Int) + 1) y z W3 (HK.out.keep (by rw [← HA.out]; exact K6.out)) HE.out HYl.out HYb.out HZl.out HZb.out).mono ?_
          rintro qr w1 ⟨rfl, hb⟩
          have F1 := Kp.mk (K1.out.keep hb)
          have F2 := Kp.mk (K2.out.keep hb)
          have F4 : Kp (Below A w w1) := ⟨K6.out.trans (hb.mono (by have := K1.out.lt; omega))⟩
          have HQl := Kp.mk (shortL_len (aboveT d e ((l : Int) + 1) y z))
          clear hb K1 K2 K4 K5 K6
          rw [← HRe.out]
          rw [← HRe.out] at HQl
          generalize foldL d e x j p (l + 1) = u at HRe HQl ⊢
          have hq2 : (q : Int).tdiv 2 = ((q / 2 : Nat) : Int) := by rw [Int.tdiv_eq_ediv_of_nonneg (by omega)]; omega
          go_wp2_with (refine wpList_store_row rfl 33 (.tmp 12) (.tmp 53) rfl (A + 1 + 1) (kv .u8 u).toArray rfl rfl 33 _ F2.out (cells50 HQl.out) (by rw [kv_size, kv_size, HYl.out, HQl.out]) (kv_all _ _) ?_)
          exact ⟨⟨l + 1, q / 2, by omega, by go_num, rfl, HQn, Row.otherRow F1.out (by omega) _, by rw [foldL, if_neg HPar.out, ← HYe.out, ← HRe0.out, ← HRe.out]; exact F2.out.setRow u, Below.row F4.out (by omega) _⟩, by simp [intOf]; omega⟩
      · go_simp
        refine hK.out _ _ ⟨Row.alloc hH.1 _, Row.alloc hH.2.1 _, Row.alloc hH.2.2.1 _, hH.2.2.2.alloc (by have := hH.1.lt; omega) _⟩ (fun hH2 => ?_)
        clear hK K
        try simp only [Act.put, List.setIfInBounds_toArray, List.set_cons_zero, List.set_cons_succ]
        clear hH
        refine wpAnyH_ready (rs := [2]) (by kernel_rfl) (by simp) ?_
        refine AllReadyH.cons (o := { dst := some 15, op := Go.Op.alloc 33, type := 0, pos := "grove.go:100", after := #[], guard := none }) rfl (fun K hK => ?_) AllReadyH.nil
        go_simp
        refine hK.out _ _ ⟨Row.alloc hH2.1 _, Row.alloc hH2.2.1 _, Row.alloc hH2.2.2.1 _, hH2.2.2.2.alloc (by have := hH2.1.lt; omega) _⟩ (fun hH => ?_)
        clear hK K
        try simp only [Act.put, List.setIfInBounds_toArray, List.set_cons_zero, List.set_cons_succ]
        clear hH2
        obtain ⟨F, hF⟩ : ∃ F, F = W2.heap.size + 1 := ⟨_, rfl⟩
        obtain ⟨S, hS⟩ : ∃ S, S = W2.heap.size := ⟨_, rfl⟩
        have HD : Kp (F ≠ S ∧ E < F ∧ E < S ∧ A + 1 + 1 < E) := ⟨by rw [hF, hS]; exact ⟨by omega, by omega, by omega, hE0⟩⟩
        have M4 : Kp (Row ((W2.drew.alloc z50).alloc z50) F 33 .u8 (fill 16 [])) := ⟨by rw [hF]; exact Blk.newAt _ (by simp)⟩
        have M5 : Kp (Row ((W2.drew.alloc z50).alloc z50) S 33 .u8 (fill 16 [])) := ⟨by rw [hS]; exact Blk.old (Blk.newAt _ rfl) _⟩
        rw [← hF, ← hS]
        have MH := Kp.mk hH
        clear hH hF hS
        obtain ⟨hFS, hEF, hES, hAE⟩ := HD.out
        refine wpAnyH_ready (rs := [4]) (by kernel_rfl) (by simp) ?_
        refine AllReadyH.cons (o := { dst := none, op := Go.Op.store 33 (Go.Operand.tmp 15) (Go.Operand.tmp 40), type := 0, pos := "grove.go:100", after := #[{ on := 2, ground := Go.Ground.data }, { on := 0, ground := Go.Ground.data }, { on := 0, ground := Go.Ground.phase }, { on := 1, ground := Go.Ground.textOnly Go.Departure.lateStores }, { on := 2, ground := Go.Ground.phase }, { on := 3, ground := Go.Ground.phase }], guard := none }) rfl (fun K hK => ?_) AllReadyH.nil
        rw [if_pos (by rfl)]
        refine wp_store_row 33 (.tmp 15) (.tmp 40) rfl F (kv .u8 y).toArray rfl rfl 33 _ M4.out (cells50 HYl.out) (size50 HYl.out) (kv_all _ _) ?_
        refine hK.out _ _ ⟨Row.otherRow MH.out.1 (by omega) _, Row.otherRow MH.out.2.1 (by omega) _, Row.otherRow MH.out.2.2.1 (by omega) _, Below.row MH.out.2.2.2 (by omega) _⟩ (fun hH2 => ?_)
        clear hK K
        try simp only [Act.put, List.setIfInBounds_toArray, List.set_cons_zero, List.set_cons_succ]
        have L4 := Kp.mk (M4.out.setRow y)
        have L5 := Kp.mk (Row.otherRow (g := F) M5.out (by omega) (kv .u8 y).toArray)
        refine wpAnyH_ready (rs := [5]) (by kernel_rfl) (by simp) ?_
        refine AllReadyH.cons (o := { dst := none, op := Go.Op.store 33 (Go.Operand.tmp 16) (Go.Operand.tmp 41), type := 0, pos := "grove.go:100", after := #[{ on := 3, ground := Go.Ground.data }, { on := 1, ground := Go.Ground.data }, { on := 4, ground := Go.Ground.chain }, { on := 0, ground := Go.Ground.phase }, { on := 1, ground := Go.Ground.phase }, { on := 2, ground := Go.Ground.phase }, { on := 3, ground := Go.Ground.phase }, { on := 4, ground := Go.Ground.phase }], guard := none }) rfl (fun K hK => ?_) AllReadyH.nil
        rw [if_pos (by rfl)]
        refine wp_store_row 33 (.tmp 16) (.tmp 41) rfl S (kv .u8 z).toArray rfl rfl 33 _ L5.out (cells50 HZl.out) (size50 HZl.out) (kv_all _ _) ?_
        refine hK.out _ _ ⟨Row.otherRow hH2.1 (by omega) _, Row.otherRow hH2.2.1 (by omega) _, Row.otherRow hH2.2.2.1 (by omega) _, Below.row hH2.2.2.2 (by omega) _⟩ (fun hH => ?_)
        clear hK K
        try simp only [Act.put, List.setIfInBounds_toArray, List.set_cons_zero, List.set_cons_succ]
        have N4 := Kp.mk (Row.otherRow (g := S) L4.out (by omega) (kv .u8 z).toArray)
        have N5 := Kp.mk (L5.out.setRow z)
        have NH := Kp.mk hH
        clear hH hH2
        refine wpAnyH_done (by kernel_rfl) ?_ _
        refine ex_world (fun W => Row W (A + 1) 33 .u8 (fill 16 []) ∧ Row W (A + 1 + 1) 33 .u8 y ∧ Row W E 33 .u8 z ∧ Row W F 33 .u8 y ∧ Row W S 33 .u8 z ∧ Below A w W) ⟨NH.out.2.2.1, NH.out.1, NH.out.2.1, N4.out, N5.out, NH.out.2.2.2⟩ ?_
        clear M4 M5 MH L4 L5 N4 N5 NH HD
        rintro W3 ⟨k1, k2, k3, k4, k5, k6⟩
        have K1 := Kp.mk k1
        have K2 := Kp.mk k2
        have K3 := Kp.mk k3
        have K4 := Kp.mk k4
        have K5 := Kp.mk k5
        have K6 := Kp.mk k6
        clear k1 k2 k3 k4 k5 k6
        have hq64 : q < 64 := by
          have h1 := HJ.out
          have h2 : n = 0 ∨ n = 1 ∨ n = 2 ∨ n = 3 ∨ n = 4 ∨ n = 5 ∨ n = 6 := by omega
          have h3 : j < 64 := by rcases h2 with rfl | rfl | rfl | rfl | rfl | rfl | rfl <;> (simp at h1; omega)
          rw [HQ.out]
          exact Nat.lt_of_le_of_lt (Nat.div_le_self _ _) h3
        have HQn : Kp (q / 2 = j / 2 ^ (l + 1)) := ⟨by rw [HQ.out, Nat.pow_succ, Nat.div_div_eq_div_mul]⟩
        by_cases hpr : q % 2 = 1
        · have HPar : Kp (j / 2 ^ l % 2 = 1) := ⟨by rw [← HQ.out]; exact hpr⟩
          rw [if_pos HPar.out] at HRe
          have ht : (q : Int).tmod 2 = 1 := by rw [Int.tmod_eq_emod_of_nonneg (by omega)]; omega
          go_wp2_with fail
          clear ht
          refine wp_region_held_drew (S := fun w' => Row w' (A + 1 + 1) 33 .u8 y ∧ Row w' E 33 .u8 z ∧ Row w' (A + 1) 33 .u8 (fill 16 []) ∧ Below A w w') (by kernel_rfl) ⟨K2.out.drew, K3.out.drew, K1.out.drew, K6.out.drew⟩ (fun hH => ?_)
          refine wpAnyH_take (i := 0) (oi := { dst := some 45, op := Go.Op.load 33 (Go.Operand.tmp 14), type := 33, pos := "grove.go:102", after := #[], guard := none }) (v := dgV z) rfl (by kernel_rfl) (by kernel_rfl) (by kernel_rfl) (fun _ _ _ h => h) (Or.inl ⟨by rfl, fun w hS => exec_load_blk 33 (.tmp 14) rfl (E) rfl 33 _ (0, 0) _ hS.2.1 Tryd.underlying33 rfl (cells50 HZl.out)⟩) hH ?_
          simp only [Act.put, List.setIfInBounds_toArray, List.set_cons_zero, List.set_cons_succ]
          refine wpAnyH_take (i := 1) (oi := { dst := some 46, op := Go.Op.load 33 (Go.Operand.tmp 12), type := 33, pos := "grove.go:102", after := #[{ on := 2, ground := Go.Ground.gcOnly Go.Departure.lateStores }], guard := none }) (v := dgV y) rfl (by kernel_rfl) (by kernel_rfl) (by kernel_rfl) (fun _ _ _ h => h) (Or.inl ⟨by rfl, fun w hS => exec_load_blk 33 (.tmp 12) rfl (A + 1 + 1) rfl 33 _ (0, 0) _ hS.1 Tryd.underlying33 rfl (cells50 HYl.out)⟩) hH ?_
          simp only [Act.put, List.setIfInBounds_toArray, List.set_cons_zero, List.set_cons_succ]
          have M4 := Kp.mk (K4.out.drew)
          have M5 := Kp.mk (K5.out.drew)
          refine wpAnyH_ready (rs := [2]) (by kernel_rfl) (by simp) ?_
          refine AllReadyH.cons (o := { dst := none, op := Go.Op.store 33 (Go.Operand.tmp 15) (Go.Operand.tmp 45), type := 0, pos := "grove.go:102", after := #[{ on := 0, ground := Go.Ground.data }, { on := 0, ground := Go.Ground.phase }, { on := 1, ground := Go.Ground.textOnly Go.Departure.lateStores }], guard := none }) rfl (fun K hK => ?_) AllReadyH.nil
          rw [if_pos (by rfl)]
          refine wp_store_row 33 (.tmp 15) (.tmp 45) rfl F (kv .u8 z).toArray rfl rfl 33 _ M4.out (cells50 HZl.out) (by rw [kv_size, kv_size, HYl.out, HZl.out]) (kv_all _ _) ?_
          refine hK.out _ _ ⟨Row.otherRow hH.1 (by omega) _, Row.otherRow hH.2.1 (by omega) _, Row.otherRow hH.2.2.1 (by omega) _, Below.row hH.2.2.2 (by omega) _⟩ (fun hH2 => ?_)
          clear hK K
          try simp only [Act.put, List.setIfInBounds_toArray, List.set_cons_zero, List.set_cons_succ]
          have L4 := Kp.mk (M4.out.setRow z)
          have L5 := Kp.mk (Row.otherRow (g := F) M5.out (by omega) (kv .u8 z).toArray)
          clear hH
          refine wpAnyH_ready (rs := [3]) (by kernel_rfl) (by simp) ?_
          refine AllReadyH.cons (o := { dst := none, op := Go.Op.store 33 (Go.Operand.tmp 16) (Go.Operand.tmp 46), type := 0, pos := "grove.go:102", after := #[{ on := 1, ground := Go.Ground.data }, { on := 2, ground := Go.Ground.chain }, { on := 0, ground := Go.Ground.phase }, { on := 1, ground := Go.Ground.phase }, { on := 2, ground := Go.Ground.phase }], guard := none }) rfl (fun K hK => ?_) AllReadyH.nil
          rw [if_pos (by rfl)]
          refine wp_store_row 33 (.tmp 16) (.tmp 46) rfl S (kv .u8 y).toArray rfl rfl 33 _ L5.out (cells50 HYl.out) (by rw [kv_size, kv_size, HYl.out, HZl.out]) (kv_all _ _) ?_
          refine hK.out _ _ ⟨Row.otherRow hH2.1 (by omega) _, Row.otherRow hH2.2.1 (by omega) _, Row.otherRow hH2.2.2.1 (by omega) _, Below.row hH2.2.2.2 (by omega) _⟩ (fun hH => ?_)
          clear hK K
          try simp only [Act.put, List.setIfInBounds_toArray, List.set_cons_zero, List.set_cons_succ]
          have N4 := Kp.mk (Row.otherRow (g := S) L4.out (by omega) (kv .u8 y).toArray)
          have N5 := Kp.mk (L5.out.setRow y)
          have NH := Kp.mk hH
          clear hH hH2
          refine wpAnyH_done (by kernel_rfl) ?_ _
          refine ex_world (fun W => Row W (A + 1) 33 .u8 (fill 16 []) ∧ Row W (A + 1 + 1) 33 .u8 y ∧ Row W E 33 .u8 z ∧ Row W F 33 .u8 z ∧ Row W S 33 .u8 y ∧ Below A w W) ⟨NH.out.2.2.1, NH.out.1, NH.out.2.1, N4.out, N5.out, NH.out.2.2.2⟩ ?_
          clear K1 K2 K3 K4 K5 K6 M4 M5 L4 L5 N4 N5 NH
          rintro W4 ⟨k1, k2, k3, k4, k5, k6⟩
          have K1 := Kp.mk k1
          have K2 := Kp.mk k2
          have K4 := Kp.mk k4
          have K5 := Kp.mk k5
          have K6 := Kp.mk k6
          clear k1 k2 k3 k4 k5 k6
          have e1 : IntKind.i64.wrap ((l : Int) + 1) = (l : Int) + 1 := IntWalk.i64_in _ (by omega)
          go_wp2_with first
            | (refine wpList_load_row rfl 33 (.tmp 15) rfl F rfl 33 _ (0, 0) _ K4.out Tryd.underlying33 rfl (cells50 HZl.out) ?_)
            | (refine wpList_load_row rfl 33 (.tmp 16) rfl S rfl 33 _ (0, 0) _ K5.out Tryd.underlying33 rfl (cells50 HYl.out) ?_)
          clear e1
          refine (above_any d e ((l : Int) + 1) z y W4 (HK.out.keep (by rw [← HA.out]; exact K6.out)) HE.out HZl.out HZb.out HYl.out HYb.out).mono ?_
          rintro qr w1 ⟨rfl, hb⟩
          have F1 := Kp.mk (K1.out.keep hb)
          have F2 := Kp.mk (K2.out.keep hb)
          have F4 : Kp (Below A w w1) := ⟨K6.out.trans (hb.mono (by have := K1.out.lt; omega))⟩
          have HQl := Kp.mk (shortL_len (aboveT d e ((l : Int) + 1) z y))
          clear hb K1 K2 K4 K5 K6
          rw [← HRe.out]
          rw [← HRe.out] at HQl
          generalize foldL d e x j p (l + 1) = u at HRe HQl ⊢
          have hq2 : (q : Int).tdiv 2 = ((q / 2 : Nat) : Int) := by rw [Int.tdiv_eq_ediv_of_nonneg (by omega)]; omega
          go_wp2_with (refine wpList_store_row rfl 33 (.tmp 12) (.tmp 53) rfl (A + 1 + 1) (kv .u8 u).toArray rfl rfl 33 _ F2.out (cells50 HQl.out) (by rw [kv_size, kv_size, HYl.out, HQl.out]) (kv_all _ _) ?_)
          exact ⟨⟨l + 1, q / 2, by omega, by go_num, rfl, HQn, Row.otherRow F1.out (by omega) _, by rw [foldL, if_pos HPar.out, ← HYe.out, ← HRe0.out, ← HRe.out]; exact F2.out.setRow u, Below.row F4.out (by omega) _⟩, by simp [intOf]; omega⟩
        · have HPar : Kp (¬ j / 2 ^ l % 2 = 1) := ⟨by rw [← HQ.out]; exact hpr⟩
          rw [if_neg HPar.out] at HRe
          have ht : (q : Int).tmod 2 = 0 := by rw [Int.tmod_eq_emod_of_nonneg (by omega)]; omega
          have e1 : IntKind.i64.wrap ((l : Int) + 1) = (l : Int) + 1 := IntWalk.i64_in _ (by omega)
          go_wp2_with first
            | (refine wpList_load_row rfl 33 (.tmp 15) rfl F rfl 33 _ (0, 0) _ K4.out Tryd.underlying33 rfl (cells50 HYl.out) ?_)
            | (refine wpList_load_row rfl 33 (.tmp 16) rfl S rfl 33 _ (0, 0) _ K5.out Tryd.underlying33 rfl (cells50 HZl.out) ?_)
          clear e1
          refine (above_any d e ((l : Int) + 1) y z W3 (HK.out.keep (by rw [← HA.out]; exact K6.out)) HE.out HYl.out HYb.out HZl.out HZb.out).mono ?_
          rintro qr w1 ⟨rfl, hb⟩
          have F1 := Kp.mk (K1.out.keep hb)
          have F2 := Kp.mk (K2.out.keep hb)
          have F4 : Kp (Below A w w1) := ⟨K6.out.trans (hb.mono (by have := K1.out.lt; omega))⟩
          have HQl := Kp.mk (shortL_len (aboveT d e ((l : Int) + 1) y z))
          clear hb K1 K2 K4 K5 K6
          rw [← HRe.out]
          rw [← HRe.out] at HQl
          generalize foldL d e x j p (l + 1) = u at HRe HQl ⊢
          have hq2 : (q : Int).tdiv 2 = ((q / 2 : Nat) : Int) := by rw [Int.tdiv_eq_ediv_of_nonneg (by omega)]; omega
          go_wp2_with (refine wpList_store_row rfl 33 (.tmp 12) (.tmp 53) rfl (A + 1 + 1) (kv .u8 u).toArray rfl rfl 33 _ F2.out (cells50 HQl.out) (by rw [kv_size, kv_size, HYl.out, HQl.out]) (kv_all _ _) ?_)
          exact ⟨⟨l + 1, q / 2, by omega, by go_num, rfl, HQn, Row.otherRow F1.out (by omega) _, by rw [foldL, if_neg HPar.out, ← HYe.out, ← HRe0.out, ← HRe.out]; exact F2.out.setRow u, Below.row F4.out (by omega) _⟩, by simp [intOf]; omega⟩
    · have hi' : l = n := by omega
      subst hi'
      rw [← HYe.out] at HU
      have HF := Kp.mk (G1.out.setRow y)
      have HBf := Kp.mk (Below.row G3.out (g := A + 1) (by omega) (kv .u8 y).toArray)
      clear HRe HYe
      go_wp2_with first
        | (refine wpList_load_row rfl 33 (.tmp 12) rfl (A + 1 + 1) rfl 33 _ (0, 0) _ G2.out Tryd.underlying33 rfl (cells50 HYl.out) ?_)
        | (refine wpList_store_row rfl 33 (.tmp 10) (.tmp 57) rfl (A + 1) (kv .u8 y).toArray rfl rfl 33 _ G1.out (cells50 HYl.out) (size50 HYl.out) (kv_all _ _) ?_)
      exact bodyPost_ret (results_fold rfl rfl HF.out HYl.out) rfl ⟨by rw [HU.out.1, HU.out.2], by rw [← HA.out]; exact HBf.out⟩

end Go.Proofs.YtahmioiefmheeaaDoor
