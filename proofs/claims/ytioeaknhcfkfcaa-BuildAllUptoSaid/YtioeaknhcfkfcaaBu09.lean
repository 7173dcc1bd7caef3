/-
  Rows of short sums (OutH).
  An update's entries; keys; frame.follows.
  frame.putEntry.
  Rows of entries; frame.PutUpdate.
  What bytes are, as rows of short sums; frame.getEntry.
-/
import Derived.Test.YtioeaknhcfkfcaaBu08
namespace Go.Proofs.Ytioeaknhcfkfcaa
open Go.RowKit

theorem range_below {w w' : World} {b o B : Nat} {C : List Value} (hc : w.rangeAt b o C) (h : Below B w w') (hb : b < B) : w'.rangeAt b o C :=
  fun j v hv => (h.cell (p := ⟨b, o + j, none⟩) hb).trans (hc j v hv)
theorem HoldsB.low {w w' : World} {M M' : Nat} {v : Value} {l l' : List Int} (h : HoldsB w M v l) (h' : HoldsB w' M' v l') : HoldsB w' M v l' := by
  obtain ⟨a, cap, e1, _, _, _, h5, _, _⟩ := h
  obtain ⟨a', cap', e2, k2, k3, k4, k5, k6, k7⟩ := h'
  subst e1
  simp only [Value.slice.injEq] at e2
  obtain ⟨rfl, e, rfl⟩ := e2
  exact ⟨a, cap, by rw [e], k2, k3, k4, fun x hx h0 => ⟨(k5 x hx h0).1, (h5 x hx (by omega)).2.1, (k5 x hx h0).2.2⟩, k6, k7⟩
def rsumsL (l S : List Int) (n : Nat) : List Int := (if (256 : Int) ^ 1 ≤ n then l else l ++ digs n 1) ++ S
set_option maxHeartbeats 3200000 in
theorem rosums_any (M : Nat) (v s : Value) (l S : List Int) (n : Nat) (f : Bool) (w : World) (h : HoldsB w M v l) (hs : HoldsS w s n S) (hn : n ≤ 1000000) (hM : M ≤ w.heap.size) (hlen : l.length ≤ 1000000000) :
    Calls Try.prog 49 #[routV v f, s] w (ROutPost v (rsumsL l S n) (numF f n 1) w) := by
  have H := Lib.hid h
  have HS := Lib.hid hs
  obtain ⟨a, m, cap, rfl, -⟩ := h.slice
  obtain ⟨a2, cap2, rfl, hl, -, hb, -⟩ := hs
  have HL := Lib.hid hl
  have HBY := Lib.hid hb
  have HM := Lib.hid hM
  have hE : Hid (rsumsL l S n = (if (256 : Int) ^ 1 ≤ n then l else l ++ digs n 1) ++ S) := rfl
  clear h hl hb hM
  generalize rsumsL l S n = LL at hE ⊢
  go_enter Try.func49, Try.ntmps49
  go_wp2_with fail
  have HB : Hid (Below w.heap.size w ((w.alloc (.cells #[.slice a m cap, .bool f] 112)).alloc (.cells #[.slice none 0 0, .bool false] 112))) := more (more (Below.refl _ _) _) _
  have HA : Hid (Blk ((w.alloc (.cells #[.slice a m cap, .bool f] 112)).alloc (.cells #[.slice none 0 0, .bool false] 112)) w.heap.size (.cells #[.slice a m cap, .bool f] 112)) := (Blk.new _ _).old _
  have HR : Hid (Blk ((w.alloc (.cells #[.slice a m cap, .bool f] 112)).alloc (.cells #[.slice none 0 0, .bool false] 112)) (w.heap.size + 1) (.cells #[.slice none 0 0, .bool false] 112)) := Blk.newAt _ (by simp)
  have HZ : Hid (((w.alloc (.cells #[.slice a m cap, .bool f] 112)).alloc (.cells #[.slice none 0 0, .bool false] 112)).heap.size = w.heap.size + 2) := by unfold Hid; simp
  generalize (w.alloc (.cells #[.slice a m cap, .bool f] 112)).alloc (.cells #[.slice none 0 0, .bool false] 112) = W at HB HA HR HZ ⊢
  refine (rnum_any M _ l f n 1 W (H.out.keep HB.out) (by have := HM.out; have := HZ.out; omega) (by omega) (by omega) (by omega) (by omega)).mono ?_
  rintro r w1 ⟨v1, rfl, h1, h1', hb1⟩
  have H1 := Lib.hid h1
  have H1' := Lib.hid h1'
  have HB1 : Hid (Below w.heap.size w w1) := HB.out.trans (hb1.mono (by have := HZ.out; omega))
  have HA1 := Lib.hid (HA.out.keep hb1)
  have HR1 := Lib.hid (HR.out.keep hb1)
  have HZ1 : Hid (w.heap.size + 2 ≤ w1.heap.size) := by have := hb1.size; have := HZ.out; show _ ≤ _; omega
  obtain ⟨L, hL⟩ : ∃ L, L = (if (256 : Int) ^ 1 ≤ n then l else l ++ digs n 1) := ⟨_, rfl⟩
  have hLl : L.length ≤ 1000000001 := by rw [hL]; split; omega; rw [List.length_append, digs_len]; omega
  rw [← hL] at H1 H1' hE
  generalize numF f n 1 = F at *
  obtain ⟨a1, m1, c1, rfl, -⟩ := h1.slice
  obtain ⟨e0, e1, g0, g1⟩ := HA1.out.two
  clear h1 h1' hb1 hL HA HR HB
  go_wp2_with fail
  go_loopw [5] (fun c wr => ∃ (i : Nat) (vo : Value), i ≤ n ∧ c = .int .i64 i ∧ HoldsB wr wr.heap.size vo (L ++ S.take (i * 16)) ∧ (vo = .slice a m cap ∨ wr.ownsRow (w.heap.size + 2) 5 1 vo (L ++ S.take (i * 16)).length (bv (L ++ S.take (i * 16)))) ∧
      Blk wr w.heap.size (.cells #[vo, .bool F] 112) ∧ Blk wr (w.heap.size + 1) (.cells #[.slice none 0 0, .bool false] 112) ∧ Below w.heap.size w wr) (fun c _ => n - (intOf c).toNat)
  case atStart =>
    have hT := ((Turn.same HA1.out).set 0 (.slice a1 m1 c1)).set 1 (.bool F)
    have lA := HA1.out.lt
    have hB1 : Below w.heap.size w _ := HB1.out.trans (hT.below (Nat.le_refl _) (by omega))
    rcases H1'.out with e | hrow
    · have k := (((H.out.low (e ▸ H1.out)).mono HM.out).frame hT.size (fun k hk hk2 => hT.other k hk2 (by omega))).mono (Nat.le_trans (Nat.le_of_lt lA) hT.size)
      rw [← e] at k
      exact ⟨0, .slice a1 m1 c1, by omega, rfl, by simpa using k, .inl e, hT.blk, hT.keep HR1.out (by omega), hB1⟩
    · have hrow2 := ownsRow_setCell_below (ownsRow_setCell_below (row_mono hrow (show w.heap.size + 2 ≤ _ by have := HZ.out; omega)) (a := ⟨w.heap.size, 0, none⟩) (by show w.heap.size < _; omega) (.slice a1 m1 c1)) (a := ⟨w.heap.size, 1, none⟩) (by show w.heap.size < _; omega) (.bool F)
      exact ⟨0, .slice a1 m1 c1, by omega, rfl, by simpa using HoldsB.ofRow H1.out.bytes hrow2, .inr (by simpa using hrow2), hT.blk, hT.keep HR1.out (by omega), hB1⟩
  case round =>
    obtain ⟨i, vo, hi', rfl, hvo, hvr, hA, hR, hB⟩ := hrel
    have HVO := Lib.hid hvo
    have HVR := Lib.hid hvr
    have HAW := Lib.hid hA
    have HRW := Lib.hid hR
    have HBW := Lib.hid hB
    obtain ⟨a5, m5, c5, rfl, -⟩ := hvo.slice
    obtain ⟨e0, e1, g0, g1⟩ := hA.two
    clear hvo hvr hB hA hR
    by_cases hlt : i < n
    · obtain ⟨b, off, rfl, hbl, hrange⟩ := HS.out.range hlt
      have HRG : Hid (wr.rangeAt b (off + i * 16) (bv (sumAt S i))) := range_below hrange HBW.out hbl
      have hlp := sumAt_len HL.out hlt
      have HPB := Lib.hid (sumAt_bytes HBY.out i)
      have HX : Hid (L ++ S.take (i * 16) ++ sumAt S i = L ++ S.take ((i + 1) * 16)) := by
        show _ = _
        unfold sumAt
        rw [List.append_assoc, show (i + 1) * 16 = i * 16 + 16 by omega, List.take_add]
      have HTL : Hid ((L ++ S.take (i * 16)).length ≤ 1000000000000) := by
        have h3 := HL.out
        show _ ≤ _
        rw [List.length_append, List.length_take]
        omega
      generalize sumAt S i = p at HRG hlp HX HPB
      have HC := Lib.hid (cells42 hlp)
      have HCL := Lib.hid (cellsL42 hlp)
      have HLP := Lib.hid hlp
      clear hrange hlp hbl
      go_wp2_with (first
        | (refine wpList_load_mid rfl 27 (.tmp 20) rfl b (off + i * 16) rfl (bv p) _ HRG.out Try.underlying27 rfl HCL.out ?_)
        | (refine wpList_store_row rfl 27 (.tmp 6) (.tmp 21) rfl wr.heap.size (bv p).toArray rfl rfl 27 _ (Blk.new wr z16p) HC.out (size51 HLP.out) (bv_all p) ?_))
      have HW : Hid (((wr.alloc z16p).setRow wr.heap.size (bv p).toArray) = wr.alloc (.cells (bv p).toArray 27)) := World.setRow_alloc_new _ _ _ _
      rw [HW.out]
      have HB2 : Hid (Below wr.heap.size wr (wr.alloc (.cells (bv p).toArray 27))) := more (Below.refl _ _) _
      have HP : Hid (HoldsB (wr.alloc (.cells (bv p).toArray 27)) (wr.heap.size + 1) (.slice (some ⟨wr.heap.size, 0, none⟩) 16 16) p) := by
        have k := HoldsB.box wr p HPB.out (by have := HLP.out; unfold maxLen; omega) 27
        rw [HLP.out] at k
        exact k
      have HA2 := Lib.hid (HAW.out.keep HB2.out)
      have HS2 : Hid ((wr.alloc (.cells (bv p).toArray 27)).heap.size = wr.heap.size + 1) := by unfold Hid; simp
      obtain ⟨k0, k1, q0, q1⟩ := HA2.out.two
      clear HW e0 e1 g0 g1
      generalize wr.alloc (.cells (bv p).toArray 27) = W2 at *
      go_wp2_with fail
      have HV2 : Hid (HoldsB W2 (wr.heap.size + 1) (.slice a5 m5 c5) (L ++ S.take (i * 16))) := (HVO.out.keep HB2.out).mono (Nat.le_succ _)
      have HL2 : Hid ((L ++ S.take (i * 16)).length + p.length ≤ 1099511627776) := by have := HTL.out; have := HLP.out; show _ ≤ _; omega
      go_region_with (go_at_call 48; refine (rraw_any (wr.heap.size + 1) (.slice a5 m5 c5) _ _ p F _ (HoldsB.drew HV2.out) (HoldsB.drew HP.out) HL2.out).mono ?_; rintro r w4 ⟨v4, rfl, ho, hb⟩; have HO := Lib.hid ho; have HB4 : Hid (Below W2.heap.size W2 w4) := ⟨hb.os, hb.tape, hb.output, hb.size, hb.block⟩; have HA4 := Lib.hid (HA2.out.keep HB4.out); obtain ⟨a7, n7, c7, rfl⟩ := row_shape ho; obtain ⟨j0, j1, j2, j3⟩ := HA4.out.two; clear ho hb k0 k1 q0 q1)
      go_wp2_with fail
      have hsz := HB4.out.size
      have hsz2 := HS2.out
      have hbw := HBW.out.size
      have lA := HAW.out.lt
      have lR := HRW.out.lt
      have hrow := ownsRow_setCell_below (ownsRow_setCell_below (row_mono HO.out (show w.heap.size + 2 ≤ _ by show _ ≤ W2.heap.size; omega)) (a := ⟨w.heap.size, 0, none⟩) (by show w.heap.size < _; omega) (.slice a7 n7 c7)) (a := ⟨w.heap.size, 1, none⟩) (by show w.heap.size < _; omega) (.bool F)
      rw [HX.out] at hrow
      have hT := ((Turn.same HA4.out).set 0 (.slice a7 n7 c7)).set 1 (.bool F)
      have hRW4 := (HRW.out.keep HB2.out).keep HB4.out
      have hall : Below w.heap.size w _ := ((HBW.out.trans (HB2.out.mono (by omega))).trans (HB4.out.mono (by omega))).trans (hT.below (Nat.le_refl _) (by omega))
      refine ⟨⟨i + 1, .slice a7 n7 c7, by omega, by go_num, HoldsB.ofRow ?_ hrow, .inr hrow, hT.blk, hT.keep hRW4 (by omega), hall⟩, by simp [intOf]; omega⟩
      have hby := HV2.out.bytes.append HPB.out
      rw [HX.out] at hby
      exact hby
    · obtain rfl : i = n := by omega
      obtain ⟨d0, d1, k0, k1⟩ := HRW.out.two
      have lt2 := HRW.out.lt
      go_wp2_with fail
      have hS : L ++ S.take (i * 16) = L ++ S := by rw [List.take_of_length_le (by have := HL.out; omega)]
      have hRF := (HRW.out.set 0 (.slice a5 m5 c5)).set 1 (.bool F)
      have hTR := (((Turn.same HRW.out).set 0 (.slice a5 m5 c5)).set 1 (.bool F)).below (B := w.heap.size) (by omega) (by omega)
      have hBF := HBW.out.trans hTR
      have hvr := HVR.out
      have hvo := HVO.out
      rw [hS] at hvr hvo
      refine bodyPost_ret (v := routV (.slice a5 m5 c5) F) (results_cell_row Try.results49 _ _ (w.heap.size + 1) 112 #[.slice a5 m5 c5, .bool F] (0, 0) _ rfl hRF Try.underlying112 rfl info28) rfl ⟨_, rfl, ?_, ?_, hBF⟩
      · rw [hE.out]
        rcases hvr with e | hrow
        · rw [e] at hvo
          have k := (((H.out.low hvo).mono HM.out).frame hTR.size (fun k hk _ => hTR.block k hk)).mono (Nat.le_trans HBW.out.size hTR.size)
          rw [← e] at k
          exact k
        · exact HoldsB.ofRow hvo.bytes (ownsRow_setCell_below (ownsRow_setCell_below hrow (a := ⟨w.heap.size + 1, 0, none⟩) (by show w.heap.size + 1 < _; omega) (.slice a5 m5 c5)) (a := ⟨w.heap.size + 1, 1, none⟩) (by show w.heap.size + 1 < _; omega) (.bool F))
      · rw [hE.out]
        rcases hvr with e | hrow
        · exact .inl e
        · exact .inr (row_mono (ownsRow_setCell_below (ownsRow_setCell_below hrow (a := ⟨w.heap.size + 1, 0, none⟩) (by show w.heap.size + 1 < _; omega) (.slice a5 m5 c5)) (a := ⟨w.heap.size + 1, 1, none⟩) (by show w.heap.size + 1 < _; omega) (.bool F)) (by omega))
end Go.Proofs.Ytioeaknhcfkfcaa

namespace Go.Proofs.Ytioeaknhcfkfcaa
open Go.RowKit

theorem isNode_any (n : Int) (w : World) : Calls Try.prog 51 #[.int .i64 n] w fun r w' => r = .returned (.bool (decide (0 ≤ n ∧ n < 8))) ∧ w = w' := by
  go_enter Try.func51, Try.ntmps51
  go_wp2_with fail
  all_goals go_ret
  all_goals exact ⟨retb (Bool.eq_iff_iff.2 (by simp; try omega)), rfl⟩

/-- An entry: a destination, a key, a leaf, and where the way and the path stand. -/
structure EV where
  (d e s m : Int)
  lf : List Int
  wa : Option Addr
  (wn wc : Nat)
  pa : Option Addr
  (pn pc : Nat)
/-- Its cells. -/
def ec (x : EV) : List Value := [.int .i64 x.d, .int .u32 x.e, .int .u32 x.s, .int .i64 x.m] ++ bv x.lf ++ [.slice x.wa x.wn x.wc, .slice x.pa x.pn x.pc]
abbrev ecV (x : EV) : Value := .agg (ec x).toArray
theorem ec_len {x : EV} (h : x.lf.length = 16) : (ec x).length = 22 := by simp [ec, h]
theorem ec_0 (x : EV) : (ec x)[0]? = some (.int .i64 x.d) := rfl
theorem ec_1 (x : EV) : (ec x)[1]? = some (.int .u32 x.e) := rfl
theorem ec_2 (x : EV) : (ec x)[2]? = some (.int .u32 x.s) := rfl
theorem ec_3 (x : EV) : (ec x)[3]? = some (.int .i64 x.m) := rfl
theorem ec_20 {x : EV} (h : x.lf.length = 16) : (ec x)[20]? = some (.slice x.wa x.wn x.wc) := by simp [ec, List.getElem?_append, h]
theorem ec_21 {x : EV} (h : x.lf.length = 16) : (ec x)[21]? = some (.slice x.pa x.pn x.pc) := by simp [ec, List.getElem?_append, h]
theorem ec_lf {x : EV} (h : x.lf.length = 16) : ((ec x).drop 4).take 16 = bv x.lf := by
  show List.take 16 (bv x.lf ++ [.slice x.wa x.wn x.wc, .slice x.pa x.pn x.pc]) = bv x.lf
  rw [List.take_left' (by simp [h])]
/-- Key and Right. -/
def krB (e s m : Int) : Bool := decide (e ≤ 65536 ∧ s < 64 ∧ 0 ≤ m ∧ m ≤ 15)
theorem kright_any (e s m : Int) (w : World) :
    Calls Try.prog 52 #[.agg #[.int .u32 e, .int .u32 s, .int .i64 m]] w fun r w' => r = .returned (.bool (krB e s m)) ∧ Below w.heap.size w w' := by
  go_enter Try.func52, Try.ntmps52
  go_wp2
  all_goals (go_ret; refine ⟨retb (Bool.eq_iff_iff.2 ?_), more (Below.refl _ _) _⟩)
  all_goals (unfold krB; simp only [decide_eq_true_eq, Bool.false_eq_true, false_iff]; omega)
theorem rkright_any (e s m : Int) (w : World) :
    Calls Try.prog 47 #[.agg #[.int .u32 e, .int .u32 s, .int .i64 m]] w fun r w' => r = .returned (.bool (krB e s m)) ∧ Below w.heap.size w w' := by
  go_enter Try.func47, Try.ntmps47
  go_wp2
  all_goals (go_ret; refine ⟨retb (Bool.eq_iff_iff.2 ?_), more (Below.refl _ _) _⟩)
  all_goals (unfold krB; simp only [decide_eq_true_eq, Bool.false_eq_true, false_iff]; omega)
theorem kto_any (e s m : Int) (w : World) :
    Calls Try.prog 21 #[.agg #[.int .u32 e, .int .u32 s, .int .i64 m]] w fun r w' => r = .returned (.agg #[.int .u32 e, .int .u32 s, .int .i64 m]) ∧ Below w.heap.size w w' := by
  go_enter Try.func21, Try.ntmps21
  go_wp2
  refine bodyPost_ret (v := .agg #[.int .u32 e, .int .u32 s, .int .i64 m]) (by simp [results, Try.results21, go_sem]) rfl ⟨rfl, more (more (Below.refl _ _) _) _⟩
theorem kfrom_any (e s m : Int) (w : World) :
    Calls Try.prog 36 #[.agg #[.int .u32 e, .int .u32 s, .int .i64 m]] w fun r w' => r = .returned (.agg #[.int .u32 e, .int .u32 s, .int .i64 m]) ∧ Below w.heap.size w w' := by
  go_enter Try.func36, Try.ntmps36
  go_wp2
  refine bodyPost_ret (v := .agg #[.int .u32 e, .int .u32 s, .int .i64 m]) (by simp [results, Try.results36, go_sem]) rfl ⟨rfl, more (more (Below.refl _ _) _) _⟩
/-- May an entry be, and stand behind last? -/
def folB (last : Int) (x : EV) : Bool := decide ((0 ≤ x.d ∧ x.d < 8) ∧ last < x.d) && (krB x.e x.s x.m && decide (x.wn ≤ 3 ∧ x.pn ≤ 6))
theorem info115s {x : EV} (h : x.lf.length = 16) : (Try.prog.info? 76).map (·.size) = some (ec x).toArray.size := by
  rw [List.size_toArray, ec_len h]
  kernel_rfl
set_option maxRecDepth 100000 in
set_option maxHeartbeats 4000000 in
theorem follows_any (last : Int) (x : EV) (w : World) (hl : x.lf.length = 16) (hwn : x.wn ≤ 1000000) (hpn : x.pn ≤ 1000000) :
    Calls Try.prog 27 #[.int .i64 last, ecV x] w fun r w' => r = .returned (.bool (folB last x)) ∧ Below w.heap.size w w' := by
  have hC := fun (w : World) => box_row (t := 76) (cs := ec x) (info115s hl) w
  obtain ⟨A, hA⟩ : ∃ A, A = w.heap.size := ⟨_, rfl⟩
  have HAe := Kp.mk hA
  have HB : Kp (Blk (w.alloc (.cells (ec x).toArray 76)) A (.cells (ec x).toArray 76)) := ⟨Blk.newAt _ hA⟩
  have HE : Kp (Below A w (w.alloc (.cells (ec x).toArray 76))) := ⟨by rw [hA]; exact more (Below.refl _ _) _⟩
  have HL := Kp.mk hl
  have HF : Kp (folB last x = (decide ((0 ≤ x.d ∧ x.d < 8) ∧ last < x.d) && (krB x.e x.s x.m && decide (x.wn ≤ 3 ∧ x.pn ≤ 6)))) := ⟨rfl⟩
  go_enter Try.func27, Try.ntmps27
  have p0 : (w.alloc (.cells (ec x).toArray 76)).cell? ⟨A, 0, none⟩ = some (.int .i64 x.d) := HB.out.cell 0
  rw [hA] at p0
  go_wp2_with (refine wpList_box_eq rfl 76 (.tmp 1) rfl _ rfl _ _ (hC _) ?_)
  rw [← hA]
  clear hC hA p0
  generalize w.alloc (.cells (ec x).toArray 76) = W at *
  have p0 : W.cell? ⟨A, 0, none⟩ = some (.int .i64 x.d) := HB.out.cell 0
  have p1 : W.cell? ⟨A, 1, none⟩ = some (.int .u32 x.e) := HB.out.cell 1
  have p2 : W.cell? ⟨A, 2, none⟩ = some (.int .u32 x.s) := HB.out.cell 2
  have p3 : W.cell? ⟨A, 3, none⟩ = some (.int .i64 x.m) := HB.out.cell 3
  refine (isNode_any x.d W).mono ?_
  rintro r w1 ⟨rfl, rfl⟩
  by_cases h1 : 0 ≤ x.d ∧ x.d < 8
  · rw [show decide (0 ≤ x.d ∧ x.d < 8) = true from decide_eq_true h1]
    by_cases h2 : last < x.d
    · go_wp2_with fail
      refine (kright_any x.e x.s x.m _).mono ?_
      rintro r w2 ⟨rfl, hb⟩
      have B2 := Kp.mk (HB.out.keep hb)
      have E2 : Kp (Below A w w2) := ⟨HE.out.trans (hb.mono (Nat.le_of_lt HB.out.lt))⟩
      clear hb p0 p1 p2 p3
      cases hk : krB x.e x.s x.m with
      | false =>
        have HX : Kp (folB last x = false) := ⟨by rw [HF.out, hk]; simp⟩
        clear hk
        go_wp2_with fail
        go_ret
        exact ⟨retb HX.out.symm, by rw [← HAe.out]; exact E2.out⟩
      | true =>
        have HX : Kp (folB last x = decide (x.wn ≤ 3 ∧ x.pn ≤ 6)) := ⟨by rw [HF.out, hk, decide_eq_true ⟨h1, h2⟩]; rfl⟩
        have q20 : w2.cell? ⟨A, 20, none⟩ = some (.slice x.wa x.wn x.wc) := (B2.out.cell 20).trans (by rw [List.getElem?_toArray]; exact ec_20 HL.out)
        have q21 : w2.cell? ⟨A, 21, none⟩ = some (.slice x.pa x.pn x.pc) := (B2.out.cell 21).trans (by rw [List.getElem?_toArray]; exact ec_21 HL.out)
        clear hk
        by_cases h3 : x.wn ≤ 3
        · have h3' : (x.wn : Int) ≤ 3 := by omega
          by_cases h4 : x.pn ≤ 6
          · have h4' : (x.pn : Int) ≤ 6 := by omega
            go_wp2_with fail
            go_ret
            exact ⟨retb (by rw [HX.out]; first | (simp [h3, h4]; done) | (simp [h3, h4]; omega)), by rw [← HAe.out]; exact E2.out⟩
          · have h4' : ¬ (x.pn : Int) ≤ 6 := by omega
            go_wp2_with fail
            go_ret
            exact ⟨retb (by rw [HX.out]; first | (simp [h3, h4]; done) | (simp [h3, h4]; omega)), by rw [← HAe.out]; exact E2.out⟩
        · have h3' : ¬ (x.wn : Int) ≤ 3 := by omega
          go_wp2_with fail
          go_ret
          exact ⟨retb (by rw [HX.out]; simp [h3]), by rw [← HAe.out]; exact E2.out⟩
    · have HX : Kp (folB last x = false) := ⟨by rw [HF.out]; simp [h2]⟩
      go_wp2_with fail
      go_ret
      exact ⟨retb HX.out.symm, by rw [← HAe.out]; exact HE.out⟩
  · have HX : Kp (folB last x = false) := ⟨by rw [HF.out]; simp [h1]⟩
    rw [show decide (0 ≤ x.d ∧ x.d < 8) = false from decide_eq_false h1]
    go_wp2_with fail
    go_ret
    exact ⟨retb HX.out.symm, by rw [← HAe.out]; exact HE.out⟩
end Go.Proofs.Ytioeaknhcfkfcaa

namespace Go.Proofs.Ytioeaknhcfkfcaa
open Go.RowKit

theorem u64_wrap {n : Int} (h : 0 ≤ n ∧ n < 18446744073709551616) : IntKind.u64.wrap n = n := by simp [IntKind.wrap, IntKind.bits, IntKind.signed]; omega

/-- The bytes of an entry. -/
def entB (x : EV) (wl pl : List Int) : List Int := digs x.d 1 ++ digs x.e 4 ++ digs x.s 1 ++ digs x.m 1 ++ x.lf ++ digs x.wn 1 ++ wl ++ digs x.pn 1 ++ pl
/-- An entry that may be laid. -/
structure EV.Ok (x : EV) : Prop where
  d : 0 ≤ x.d ∧ x.d < 8
  e : 0 ≤ x.e ∧ x.e ≤ 65536
  s : 0 ≤ x.s ∧ x.s < 64
  m : 0 ≤ x.m ∧ x.m ≤ 15
  w : x.wn ≤ 3
  p : x.pn ≤ 6
  l : x.lf.length = 16
  b : Bytes x.lf
theorem HoldsS.lowStep {w w' : World} {O n : Nat} {v v' s : Value} {l l0 S : List Int} {f f0 : Bool} (st : OutStep O v v' l f w w') (h0 : OutIs w O v l0 f0) (h : HoldsS w s n S) (hd : ∀ b, s.ownBlock = some b → b < O) : HoldsS w' s n S := by
  obtain ⟨a, cap, rfl, h2, h3, h4, h5⟩ := h
  refine ⟨a, cap, rfl, h2, h3, h4, fun hn => ?_⟩
  obtain ⟨b, off, rfl, hlt, hc⟩ := h5 hn
  have hb := hd b rfl
  refine ⟨b, off, rfl, Nat.lt_of_lt_of_le hlt st.size, fun j hj => (World.cell?_of_block (w := w) (a := ⟨b, off + j, none⟩) (st.other b hlt (by omega) (fun e => ?_))).trans (hc j hj)⟩
  have := (h0.row.lt b e).1
  omega
theorem sumsL_ok {l S : List Int} {n : Nat} (h : n < 256) : sumsL' l S n false = l ++ digs n 1 ++ S ∧ sumsF' n false = false := by
  obtain ⟨e1, e2⟩ := numL_ok (l := l) (n := (n : Int)) (k := 1) (by omega)
  unfold sumsL' sumsF'
  rw [e1, e2]
  exact ⟨rfl, rfl⟩
set_option maxRecDepth 100000 in
set_option maxHeartbeats 8000000 in
theorem putEntry_any (O : Nat) (v : Value) (l : List Int) (x : EV) (wl pl : List Int) (w : World) (h : OutIs w O v l false) (hx : x.Ok) (hw : HoldsS w (.slice x.wa x.wn x.wc) x.wn wl) (hp : HoldsS w (.slice x.pa x.pn x.pc) x.pn pl)
    (hwO : ∀ b, (Value.slice x.wa x.wn x.wc).ownBlock = some b → b < O) (hpO : ∀ b, (Value.slice x.pa x.pn x.pc).ownBlock = some b → b < O) (hlen : l.length ≤ 1000000) :
    Calls Try.prog 28 #[.pointer (some ⟨O, 0, none⟩), ecV x] w (LayPost O v (l ++ entB x wl pl) false w) := by
  have hC := fun (w : World) => box_row (t := 76) (cs := ec x) (info115s hx.l) w
  obtain ⟨A, hA⟩ : ∃ A, A = w.heap.size := ⟨_, rfl⟩
  have HB : Kp (Blk (w.alloc (.cells (ec x).toArray 76)) A (.cells (ec x).toArray 76)) := ⟨Blk.newAt _ hA⟩
  have HI : Kp (OutIs (w.alloc (.cells (ec x).toArray 76)) O v l false) := ⟨h.keep (more (Below.refl _ _) _)⟩
  have HA : Kp (Below w.heap.size w (w.alloc (.cells (ec x).toArray 76)) ∧ OutIs w O v l false) := ⟨more (Below.refl _ _) _, h⟩
  have HW : Kp (HoldsS (w.alloc (.cells (ec x).toArray 76)) (.slice x.wa x.wn x.wc) x.wn wl) := ⟨hw.keep (more (Below.refl _ _) _)⟩
  have HP : Kp (HoldsS (w.alloc (.cells (ec x).toArray 76)) (.slice x.pa x.pn x.pc) x.pn pl) := ⟨hp.keep (more (Below.refl _ _) _)⟩
  have HO : Kp (A ≠ O ∧ v.ownBlock ≠ some A) := ⟨by have := h.blk.lt; omega, fun e => by have := (h.row.lt A e).2; omega⟩
  have HD : Kp ((∀ b, (Value.slice x.wa x.wn x.wc).ownBlock = some b → b < O) ∧ ∀ b, (Value.slice x.pa x.pn x.pc).ownBlock = some b → b < O) := ⟨hwO, hpO⟩
  have HX := Kp.mk hx
  have HL0 := Kp.mk hlen
  have HWL : Kp (wl.length ≤ 48 ∧ pl.length ≤ 96) := ⟨by obtain ⟨_, _, _, e2, _⟩ := hw; obtain ⟨_, _, _, e3, _⟩ := hp; have := hx.w; have := hx.p; omega⟩
  have k1 : IntKind.u64.wrap x.d = x.d := u64_wrap (by have := hx.d; omega)
  have k2 : IntKind.u64.wrap x.e = x.e := u64_wrap (by have := hx.e; omega)
  have k3 : IntKind.u64.wrap x.s = x.s := u64_wrap (by have := hx.s; omega)
  have k4 : IntKind.u64.wrap x.m = x.m := u64_wrap (by have := hx.m; omega)
  obtain ⟨LL, hLL⟩ : ∃ LL, LL = l ++ entB x wl pl := ⟨_, rfl⟩
  have HLL := Kp.mk hLL
  rw [← hLL]
  clear h hw hp hwO hpO hx hlen hLL
  go_enter Try.func28, Try.ntmps28
  have p0 : (w.alloc (.cells (ec x).toArray 76)).cell? ⟨w.heap.size, 0, none⟩ = some (.int .i64 x.d) := by rw [← hA]; exact HB.out.cell 0
  go_wp2_with (refine wpList_box_eq rfl 76 (.tmp 1) rfl _ rfl _ _ (hC _) ?_)
  rw [← hA]
  clear hC hA p0
  generalize w.alloc (.cells (ec x).toArray 76) = W1 at *
  have ST0 := Kp.mk (OutStep.below HI.out (Below.refl _ _))
  obtain ⟨l0, hl0⟩ : ∃ l0, l0 = l := ⟨_, rfl⟩
  have E0 := Kp.mk hl0
  have N0 : Kp (l0.length ≤ 1000000) := ⟨by rw [hl0]; exact HL0.out⟩
  rw [← hl0] at ST0
  clear hl0
  refine (u8o_any O _ l0 false x.d W1 ST0.out.is (HX.out.d.1) (by have := HX.out.d; omega) (by have := N0.out; omega)).mono ?_
  rintro r w1 ⟨rfl, v1, s1⟩
  obtain ⟨e1, e2⟩ := numL_ok (l := l0) (n := x.d) (k := 1) (by have := HX.out.d; omega)
  rw [e1, e2] at s1
  have ST1 := Kp.mk (ST0.out.trans s1)
  obtain ⟨l1, hl1⟩ : ∃ L, L = l0 ++ digs x.d 1 := ⟨_, rfl⟩
  have E1 := Kp.mk hl1
  have N1 : Kp (l1.length ≤ 1000100) := ⟨by rw [hl1, List.length_append, digs_len]; have := N0.out; omega⟩
  rw [← hl1] at ST1
  clear s1 e1 e2 hl1
  have p2 : w1.cell? ⟨A, 1, none⟩ = some (.int .u32 x.e) := (ST1.out.keep HB.out HO.out.1 HO.out.2).cell 1
  go_wp2_with fail
  refine (u32o_any O _ l1 false x.e w1 ST1.out.is (HX.out.e.1) (by have := HX.out.e; omega) (by have := N1.out; omega)).mono ?_
  rintro r w2 ⟨rfl, v2, s2⟩
  obtain ⟨e1, e2⟩ := numL_ok (l := l1) (n := x.e) (k := 4) (by have := HX.out.e; omega)
  rw [e1, e2] at s2
  have ST2 := Kp.mk (ST1.out.trans s2)
  obtain ⟨l2, hl2⟩ : ∃ L, L = l1 ++ digs x.e 4 := ⟨_, rfl⟩
  have E2 := Kp.mk hl2
  have N2 : Kp (l2.length ≤ 1000200) := ⟨by rw [hl2, List.length_append, digs_len]; have := N1.out; omega⟩
  rw [← hl2] at ST2
  clear s2 e1 e2 hl2 p2
  have p3 : w2.cell? ⟨A, 2, none⟩ = some (.int .u32 x.s) := (ST2.out.keep HB.out HO.out.1 HO.out.2).cell 2
  go_wp2_with fail
  refine (u8o_any O _ l2 false x.s w2 ST2.out.is (HX.out.s.1) (by have := HX.out.s; omega) (by have := N2.out; omega)).mono ?_
  rintro r w3 ⟨rfl, v3, s3⟩
  obtain ⟨e1, e2⟩ := numL_ok (l := l2) (n := x.s) (k := 1) (by have := HX.out.s; omega)
  rw [e1, e2] at s3
  have ST3 := Kp.mk (ST2.out.trans s3)
  obtain ⟨l3, hl3⟩ : ∃ L, L = l2 ++ digs x.s 1 := ⟨_, rfl⟩
  have E3 := Kp.mk hl3
  have N3 : Kp (l3.length ≤ 1000300) := ⟨by rw [hl3, List.length_append, digs_len]; have := N2.out; omega⟩
  rw [← hl3] at ST3
  clear s3 e1 e2 hl3 p3
  have p4 : w3.cell? ⟨A, 3, none⟩ = some (.int .i64 x.m) := (ST3.out.keep HB.out HO.out.1 HO.out.2).cell 3
  go_wp2_with fail
  refine (u8o_any O _ l3 false x.m w3 ST3.out.is (HX.out.m.1) (by have := HX.out.m; omega) (by have := N3.out; omega)).mono ?_
  rintro r w4 ⟨rfl, v4, s4⟩
  obtain ⟨e1, e2⟩ := numL_ok (l := l3) (n := x.m) (k := 1) (by have := HX.out.m; omega)
  rw [e1, e2] at s4
  have ST4 := Kp.mk (ST3.out.trans s4)
  obtain ⟨l4, hl4⟩ : ∃ L, L = l3 ++ digs x.m 1 := ⟨_, rfl⟩
  have E4 := Kp.mk hl4
  have N4 : Kp (l4.length ≤ 1000400) := ⟨by rw [hl4, List.length_append, digs_len]; have := N3.out; omega⟩
  rw [← hl4] at ST4
  clear s4 e1 e2 hl4 p4
  have pr : w4.rangeAt A 4 (bv x.lf) := fun j u hu => by
    rw [(ST4.out.keep HB.out HO.out.1 HO.out.2).cell (4 + j), List.getElem?_toArray]
    rw [← ec_lf HX.out.l, List.getElem?_take, List.getElem?_drop] at hu
    split at hu
    · exact hu
    · cases hu
  have HPR := Kp.mk pr
  clear pr
  go_wp2_with (refine wpList_load_mid rfl 70 (.tmp 29) rfl A 4 rfl (bv x.lf) _ HPR.out Try.underlying70 rfl (cellsL51 HX.out.l) ?_)
  refine (sumo_any O _ l4 x.lf false w4 ST4.out.is HX.out.b HX.out.l (by have := N4.out; omega)).mono ?_
  rintro r w5 ⟨rfl, v5, s5⟩
  rw [show putL l4 x.lf false = l4 ++ x.lf from rfl] at s5
  have ST5 := Kp.mk (ST4.out.trans s5)
  obtain ⟨l5, hl5⟩ : ∃ L, L = l4 ++ x.lf := ⟨_, rfl⟩
  have E5 := Kp.mk hl5
  have N5 : Kp (l5.length ≤ 1000500) := ⟨by rw [hl5, List.length_append, HX.out.l]; have := N4.out; omega⟩
  rw [← hl5] at ST5
  clear s5 hl5 HPR
  have q6 : w5.cell? ⟨A, 20, none⟩ = some (.slice x.wa x.wn x.wc) := ((ST5.out.keep HB.out HO.out.1 HO.out.2).cell 20).trans (by rw [List.getElem?_toArray]; exact ec_20 HX.out.l)
  go_wp2_with fail
  refine (sumso_any O _ _ l5 wl x.wn false w5 ST5.out.is (HoldsS.lowStep ST5.out HI.out HW.out HD.out.1) (by have := HX.out.w; omega) (fun b hb => ⟨by have := HD.out.1 b hb; omega, fun e => by have h1 := HD.out.1 b hb; have h2 := (ST5.out.is.row.lt b e).1; omega⟩) (by have := N5.out; omega)).mono ?_
  rintro r w6 ⟨rfl, v6, s6⟩
  obtain ⟨e1, e2⟩ := sumsL_ok (l := l5) (S := wl) (n := x.wn) (by have := HX.out.w; omega)
  rw [e1, e2] at s6
  have ST6 := Kp.mk (ST5.out.trans s6)
  obtain ⟨l6, hl6⟩ : ∃ L, L = l5 ++ digs x.wn 1 ++ wl := ⟨_, rfl⟩
  have E6 := Kp.mk hl6
  have N6 : Kp (l6.length ≤ 1000700) := ⟨by rw [hl6, List.length_append, List.length_append, digs_len]; have := N5.out; have := HWL.out; omega⟩
  rw [← hl6] at ST6
  clear s6 e1 e2 hl6 q6
  have q7 : w6.cell? ⟨A, 21, none⟩ = some (.slice x.pa x.pn x.pc) := ((ST6.out.keep HB.out HO.out.1 HO.out.2).cell 21).trans (by rw [List.getElem?_toArray]; exact ec_21 HX.out.l)
  go_wp2_with fail
  refine (sumso_any O _ _ l6 pl x.pn false w6 ST6.out.is (HoldsS.lowStep ST6.out HI.out HP.out HD.out.2) (by have := HX.out.p; omega) (fun b hb => ⟨by have := HD.out.2 b hb; omega, fun e => by have h1 := HD.out.2 b hb; have h2 := (ST6.out.is.row.lt b e).1; omega⟩) (by have := N6.out; omega)).mono ?_
  rintro r w7 ⟨rfl, v7, s7⟩
  obtain ⟨e1, e2⟩ := sumsL_ok (l := l6) (S := pl) (n := x.pn) (by have := HX.out.p; omega)
  rw [e1, e2] at s7
  have ST7 := Kp.mk (ST6.out.trans s7)
  obtain ⟨l7, hl7⟩ : ∃ L, L = l6 ++ digs x.pn 1 ++ pl := ⟨_, rfl⟩
  have E7 := Kp.mk hl7
  have N7 : Kp (l7.length ≤ 1000900) := ⟨by rw [hl7, List.length_append, List.length_append, digs_len]; have := N6.out; have := HWL.out; omega⟩
  rw [← hl7] at ST7
  clear s7 e1 e2 hl7 q7
  have HALL : Kp (l7 = LL) := ⟨by rw [E7.out, E6.out, E5.out, E4.out, E3.out, E2.out, E1.out, E0.out, HLL.out]; unfold entB; simp⟩
  go_wp2_with fail
  go_end0
  exact ⟨rfl, v7, by rw [← HALL.out]; exact OutStep.ahead HA.out.2 HA.out.1 ST7.out⟩
end Go.Proofs.Ytioeaknhcfkfcaa

namespace Go.Proofs.Ytioeaknhcfkfcaa
open Go.RowKit

theorem ec_one (x : EV) : (ec x).toArray.all (·.oneCell') = true := by
  refine all_oneCell_toArray fun v hv => ?_
  unfold ec at hv
  rw [List.mem_append, List.mem_append] at hv
  rcases hv with (hv | hv) | hv
  · simp at hv
    rcases hv with rfl | rfl | rfl | rfl <;> rfl
  · exact bv_one _ v hv
  · simp at hv
    rcases hv with rfl | rfl <;> rfl
/-- An entry, its way's and its path's bytes. -/
abbrev E3 := EV × List Int × List Int
/-- An entry in memory, its rows below M. -/
structure EIs (w : World) (M : Nat) (z : E3) : Prop where
  l : z.1.lf.length = 16
  b : Bytes z.1.lf
  e : 0 ≤ z.1.e ∧ z.1.e ≤ 4294967295
  s : 0 ≤ z.1.s ∧ z.1.s ≤ 4294967295
  wn : z.1.wn ≤ 65535
  pn : z.1.pn ≤ 65535
  hw : HoldsS w (.slice z.1.wa z.1.wn z.1.wc) z.1.wn z.2.1
  hp : HoldsS w (.slice z.1.pa z.1.pn z.1.pc) z.1.pn z.2.2
  wb : ∀ b, (Value.slice z.1.wa z.1.wn z.1.wc).ownBlock = some b → b < M
  pb : ∀ b, (Value.slice z.1.pa z.1.pn z.1.pc).ownBlock = some b → b < M
theorem EIs.keep {w w' : World} {M : Nat} {z : E3} (h : EIs w M z) (hb : Below w.heap.size w w') : EIs w' M z := ⟨h.l, h.b, h.e, h.s, h.wn, h.pn, h.hw.keep hb, h.hp.keep hb, h.wb, h.pb⟩
theorem EIs.step {w w' : World} {O M : Nat} {v v' : Value} {l l0 : List Int} {f f0 : Bool} {z : E3} (h : EIs w M z) (st : OutStep O v v' l f w w') (h0 : OutIs w O v l0 f0) (hM : M ≤ O) : EIs w' M z :=
  ⟨h.l, h.b, h.e, h.s, h.wn, h.pn, HoldsS.lowStep st h0 h.hw (fun b hb => by have := h.wb b hb; omega), HoldsS.lowStep st h0 h.hp (fun b hb => by have := h.pb b hb; omega), h.wb, h.pb⟩
/-- n entries stand at a. -/
structure HoldsE (w : World) (M : Nat) (a : Option Addr) (n : Nat) (f : Nat → E3) : Prop where
  e : ∀ i, i < n → EIs w M (f i)
  c : ∀ i, i < n → ∃ b off, a = some ⟨b, off, none⟩ ∧ b < M ∧ b < w.heap.size ∧ w.rangeAt b (off + i * 22) (ec (f i).1)
theorem rangeAt_keepU {w w' : World} {b o : Nat} {C : List Value} (hc : w.rangeAt b o C) (h : w'.heap[b]? = w.heap[b]?) : w'.rangeAt b o C := fun j v hv => (World.cell?_of_block (w := w) (a := ⟨b, o + j, none⟩) h).trans (hc j v hv)
theorem HoldsE.keep {w w' : World} {M n : Nat} {a : Option Addr} {f : Nat → E3} (h : HoldsE w M a n f) (hb : Below w.heap.size w w') : HoldsE w' M a n f :=
  ⟨fun i hi => (h.e i hi).keep hb, fun i hi => by
    obtain ⟨b, off, e1, e2, e3, e4⟩ := h.c i hi
    exact ⟨b, off, e1, e2, Nat.lt_of_lt_of_le e3 hb.size, rangeAt_keepU e4 (hb.block _ e3)⟩⟩
theorem HoldsE.step {w w' : World} {O M n : Nat} {v v' : Value} {l l0 : List Int} {g g0 : Bool} {a : Option Addr} {f : Nat → E3} (h : HoldsE w M a n f) (st : OutStep O v v' l g w w') (h0 : OutIs w O v l0 g0) (hM : M ≤ O) : HoldsE w' M a n f :=
  ⟨fun i hi => (h.e i hi).step st h0 hM, fun i hi => by
    obtain ⟨b, off, e1, e2, e3, e4⟩ := h.c i hi
    exact ⟨b, off, e1, e2, Nat.lt_of_lt_of_le e3 st.size, rangeAt_keepU e4 (st.other b e3 (by omega) (fun e => by have := (h0.row.lt b e).1; omega))⟩⟩
/-- The destination ahead of the k-th entry. -/
def lastD (f : Nat → E3) : Nat → Int
  | 0 => -1
  | k + 1 => (f k).1.d
def updOk (f : Nat → E3) (n : Nat) : Bool := (List.range n).all fun k => folB (lastD f k) (f k).1
theorem updOk_succ (f : Nat → E3) (n : Nat) : updOk f (n + 1) = (updOk f n && folB (lastD f n) (f n).1) := by simp [updOk, List.range_succ]
theorem updOk_le {f : Nat → E3} {i n : Nat} (h : updOk f n = true) (hi : i ≤ n) : updOk f i = true := by
  unfold updOk at h ⊢
  rw [List.all_eq_true] at h ⊢
  intro k hk
  exact h k (by simp at hk ⊢; omega)
def entsB (f : Nat → E3) (n : Nat) : List Int := (List.range n).flatMap fun i => entB (f i).1 (f i).2.1 (f i).2.2
theorem entsB_succ (f : Nat → E3) (n : Nat) : entsB f (n + 1) = entsB f n ++ entB (f n).1 (f n).2.1 (f n).2.2 := by simp [entsB, List.range_succ]
def fullN (u : Bool) : Int := if u then 1 else 0
def updE (f : Nat → E3) (n : Nat) : Int := if 8 < n then 8 else if updOk f n = true then 0 else 1
def updB (u : Bool) (f : Nat → E3) (n : Nat) : List Int := digs (fullN u) 1 ++ digs n 1 ++ entsB f n
def updX (u : Bool) (f : Nat → E3) (n : Nat) : List Int := if updE f n = 0 then updB u f n else []
def UpdPost (u : Bool) (f : Nat → E3) (n : Nat) (w : World) (r : Ending) (w' : World) : Prop :=
  ∃ v, r = .returned (.tuple #[v, .int .i64 (updE f n)]) ∧ w'.ownsRow w.heap.size 5 1 v (updX u f n).length (bv (updX u f n)) ∧ Bytes (updX u f n) ∧ Below w.heap.size w w'
theorem EV.ok_of {w : World} {M : Nat} {z : E3} {last : Int} (h : EIs w M z) (hf : folB last z.1 = true) : z.1.Ok := by
  unfold folB krB at hf
  simp only [Bool.and_eq_true, decide_eq_true_eq] at hf
  obtain ⟨⟨h1, h2⟩, ⟨h3, h4, h5, h6⟩, h7, h8⟩ := hf
  exact ⟨h1, ⟨h.e.1, h3⟩, ⟨h.s.1, h4⟩, ⟨h5, h6⟩, h7, h8, h.l, h.b⟩
theorem entB_len {w : World} {M : Nat} {z : E3} {last : Int} (h : EIs w M z) (hf : folB last z.1 = true) : (entB z.1 z.2.1 z.2.2).length ≤ 200 := by
  have ho := EV.ok_of h hf
  obtain ⟨_, _, _, e2, _⟩ := h.hw
  obtain ⟨_, _, _, e3, _⟩ := h.hp
  have h1 := ho.w
  have h2 := ho.p
  have h3 := ho.l
  unfold entB
  simp only [List.length_append, digs_len, h3, e2, e3]
  omega
theorem fnumber_any (u : Bool) (w : World) : Calls Try.prog 26 #[.bool u] w fun r w' => r = .returned (.int .u64 (fullN u)) ∧ w = w' := by
  go_enter Try.func26, Try.ntmps26
  cases u
  · go_wp2_with fail
    go_ret
    exact ⟨rfl, rfl⟩
  · go_wp2_with fail
    go_ret
    exact ⟨rfl, rfl⟩
/-- PutUpdate, on its way. -/
structure USt (w : World) (F O : Nat) (a : Option Addr) (n : Nat) (f : Nat → E3) (cs : Array Value) (v : Value) (L : List Int) (W : World) : Prop where
  o : OutIs W O v L false
  b : Blk W F (.cells cs 45)
  e : HoldsE W F a n f
  below : Below F w W
  fo : F < O
theorem USt.step {w W W' : World} {F O n : Nat} {a : Option Addr} {f : Nat → E3} {cs : Array Value} {v v' : Value} {L L' : List Int} (h : USt w F O a n f cs v L W) (hs : OutStep O v v' L' false W W') : USt w F O a n f cs v' L' W' := by
  have hn := h.o.ne h.fo
  refine ⟨hs.is, hs.keep h.b hn.1 hn.2, h.e.step hs h.o (by have := h.fo; omega), hs.belowNew h.below (by have := h.fo; omega) (fun k hk => ?_) (by have := h.b.lt; omega), h.fo⟩
  have := NewV.of h.o.row k hk
  have := h.fo
  omega
theorem USt.more {w W W' : World} {F O n : Nat} {a : Option Addr} {f : Nat → E3} {cs : Array Value} {v : Value} {L : List Int} (h : USt w F O a n f cs v L W) (hb : Below W.heap.size W W') : USt w F O a n f cs v L W' :=
  ⟨h.o.keep hb, h.b.keep hb, h.e.keep hb, h.below.trans (hb.mono (Nat.le_of_lt h.b.lt)), h.fo⟩
set_option maxRecDepth 100000 in
set_option maxHeartbeats 8000000 in
theorem putUpdate_any (u : Bool) (a : Option Addr) (n c : Nat) (f : Nat → E3) (w : World) (h : HoldsE w w.heap.size a n f) (hn : n ≤ 1000000) :
    Calls Try.prog 11 #[.agg #[.bool u, .slice a n c]] w (UpdPost u f n w) := by
  obtain ⟨F, hF⟩ : ∃ F, F = w.heap.size := ⟨_, rfl⟩
  have HFe := Kp.mk hF
  have HH : Kp (HoldsE w F a n f) := ⟨by rw [hF]; exact h⟩
  have hmax : n ≤ 9223372036854775807 := by omega
  have HE1 : Kp (updE f n = if 8 < n then 8 else if updOk f n = true then 0 else 1) := ⟨rfl⟩
  have HX1 : Kp (updX u f n = if updE f n = 0 then updB u f n else []) := ⟨rfl⟩
  clear h
  by_cases h8 : 8 < n
  · have h8' : (8 : Int) < n := by omega
    have PE : Kp (updE f n = 8) := ⟨by rw [HE1.out, if_pos h8]⟩
    have PX : Kp (updX u f n = []) := ⟨by rw [HX1.out, PE.out]; rfl⟩
    clear hF
    go_enter Try.func11, Try.ntmps11
    go_wp2_with fail
    exact bodyPost_ret (results_tmp2U rfl _ _ _ _) rfl ⟨.slice none 0 0, by rw [PE.out]; rfl, by rw [PX.out]; exact World.ownsRow_nil _ _ _ _, by rw [PX.out]; exact Bytes.nil, more (Below.refl _ _) _⟩
  · have h8' : ¬ (8 : Int) < n := by omega
    have HN8 : Kp (n ≤ 8) := ⟨by omega⟩
    have HE2 : Kp (updE f n = if updOk f n = true then 0 else 1) := ⟨by rw [HE1.out, if_neg h8]⟩
    have hw1 : IntKind.u64.wrap (n : Int) = n := u64_wrap (by omega)
    clear HE1 h8
    go_enter Try.func11, Try.ntmps11
    go_wp2_with fail
    refine (lay_any _).mono ?_
    rintro r w2 ⟨rfl, rfl⟩
    obtain ⟨O, hO⟩ : ∃ O, O = (w.alloc (.cells #[.bool u, .slice a n c] 45)).heap.size := ⟨_, rfl⟩
    have S0 : Kp (USt w F O a n f #[.bool u, .slice a n c] (.slice none 0 0) [] ((w.alloc (.cells #[.bool u, .slice a n c] 45)).alloc (outObj (.slice none 0 0) false))) := ⟨by rw [hO]; exact ⟨OutIs.laid _, (Blk.newAt _ hF).old _, (HH.out.keep (more (Below.refl _ _) _)).keep (more (Below.refl _ _) _), by rw [hF]; exact more (more (Below.refl _ _) _) _, by rw [hF]; simp⟩⟩
    rw [← hO, ← hF]
    clear hO hF h8'
    generalize (w.alloc (.cells #[.bool u, .slice a n c] 45)).alloc (outObj (.slice none 0 0) false) = W0 at *
    have p0 : W0.cell? ⟨F, 0, none⟩ = some (.bool u) := S0.out.b.cell 0
    have p1 : W0.cell? ⟨F, 1, none⟩ = some (.slice a n c) := S0.out.b.cell 1
    go_wp2_with fail
    refine (fnumber_any u W0).mono ?_
    rintro r w1 ⟨rfl, rfl⟩
    have hfu : 0 ≤ fullN u ∧ fullN u ≤ 1 := by unfold fullN; cases u <;> simp
    obtain ⟨fu, hfe⟩ : ∃ fu, fu = fullN u := ⟨_, rfl⟩
    have HFU := Kp.mk hfe
    rw [← hfe] at hfu ⊢
    clear hfe
    go_wp2_with fail
    refine (u8o_any O _ _ _ fu W0 S0.out.o (by omega) (by omega) (by simp)).mono ?_
    rintro r w1 ⟨rfl, v1, s1⟩
    obtain ⟨e1, e2⟩ := numL_ok (l := ([] : List Int)) (n := fu) (k := 1) (by omega)
    rw [e1, e2, List.nil_append] at s1
    have S1 := Kp.mk (S0.out.step s1)
    clear s1 e1 e2 p0 p1 S0
    have p1 : w1.cell? ⟨F, 1, none⟩ = some (.slice a n c) := S1.out.b.cell 1
    go_wp2_with fail
    refine (u8o_any O _ _ _ n w1 S1.out.o (by omega) (by have := HN8.out; omega) (by rw [digs_len]; omega)).mono ?_
    rintro r w2 ⟨rfl, v2, s2⟩
    obtain ⟨e1, e2⟩ := numL_ok (l := digs fu 1) (n := (n : Int)) (k := 1) (by have := HN8.out; omega)
    rw [e1, e2] at s2
    have S2 := Kp.mk (S1.out.step s2)
    obtain ⟨L2, hL2⟩ : ∃ L2, L2 = digs fu 1 ++ digs n 1 := ⟨_, rfl⟩
    have HL2 : Kp (L2.length = 2 ∧ updB u f n = L2 ++ entsB f n) := ⟨by rw [hL2]; simp [digs_len], by rw [hL2, HFU.out]; rfl⟩
    rw [← hL2] at S2
    clear s2 e1 e2 p1 S1 hL2
    have p1 : w2.cell? ⟨F, 1, none⟩ = some (.slice a n c) := S2.out.b.cell 1
    go_wp2_with fail
    clear p1
    go_loopw [5, 27] (fun lv ct wr => ∃ (i : Nat) (v : Value), i ≤ n ∧ ct = .int .i64 i ∧ lv = .int .i64 (lastD f i) ∧ Kp (updOk f i = true ∧ (entsB f i).length ≤ 200 * i) ∧ Kp (USt w F O a n f #[.bool u, .slice a n c] v (L2 ++ entsB f i) wr)) (fun _ ct _ => n - (intOf ct).toNat)
    case atStart => exact ⟨0, v2, by omega, rfl, rfl, ⟨rfl, by simp [entsB]⟩, ⟨by simp only [entsB, List.range_zero, List.flatMap_nil, List.append_nil]; exact S2.out⟩⟩
    case round =>
      obtain ⟨i, v, hi, rfl, rfl, HOKI, HST⟩ := hrel
      by_cases hlt : i < n
      · have HEI := Kp.mk (HST.out.e.e i hlt)
        obtain ⟨b, off, rfl, hbF, hbl, hrg⟩ := HST.out.e.c i hlt
        have HRG := Kp.mk hrg
        have HSUC := Kp.mk (And.intro (updOk_succ f i) (entsB_succ f i))
        have HLAST : Kp (lastD f (i + 1) = (f i).1.d) := ⟨rfl⟩
        obtain ⟨z, hz⟩ : ∃ z, z = f i := ⟨_, rfl⟩
        have HZ9 := Kp.mk hz
        rw [← hz] at HRG HEI HSUC HLAST
        have HIX := Kp.mk (info115s HEI.out.l)
        clear hrg hz hbF hbl
        have HSZ : Kp ((ec z.1).toArray.size = 22) := ⟨by rw [List.size_toArray]; exact ec_len HEI.out.l⟩
        have HLEN22 : Kp ((Try.prog.info? 76).map (·.size) = some (ec z.1).length) := ⟨by have := HIX.out; simpa using this⟩
        go_wp2_with (first
          | (refine wpList_load_mid rfl 76 (.tmp 29) rfl b (off + i * 22) rfl (ec z.1) _ HRG.out Try.underlying76 rfl HLEN22.out ?_)
          | (refine wpList_store_row rfl 76 (.tmp 7) (.tmp 30) rfl wr.heap.size (ec z.1).toArray rfl rfl 76 _ (Blk.newAt _ rfl) HIX.out (by rw [HSZ.out]; rfl) (ec_one z.1) ?_; refine wpl_world (fun W => USt w F O (some ⟨b, off, none⟩) n f #[.bool u, .slice (some ⟨b, off, none⟩) n c] v (L2 ++ entsB f i) W ∧ Blk W wr.heap.size (.cells (ec z.1).toArray 76) ∧ EIs W F z) ⟨by rw [World.setRow_alloc_new]; exact HST.out.more (more (Below.refl _ _) _), by rw [World.setRow_alloc_new]; exact Blk.new _ _, by rw [World.setRow_alloc_new]; exact HEI.out.keep (more (Below.refl _ _) _)⟩ ?_; rintro W3 h3; have S3 := Kp.mk h3; clear h3)
          | (refine wpList_load_row rfl 76 (.tmp 7) rfl wr.heap.size rfl 76 (ec z.1).toArray (0, 0) _ S3.out.2.1 Try.underlying76 rfl HIX.out ?_))
        obtain ⟨K, hK⟩ : ∃ K, K = wr.heap.size := ⟨_, rfl⟩
        rw [← hK] at S3 ⊢
        clear hK HST HEI HRG
        refine (follows_any (lastD f i) z.1 _ S3.out.2.2.l (by have := S3.out.2.2.wn; omega) (by have := S3.out.2.2.pn; omega)).mono ?_
        rintro r w4 ⟨rfl, hb⟩
        have S4 : Kp (USt w F O (some ⟨b, off, none⟩) n f #[.bool u, .slice (some ⟨b, off, none⟩) n c] v (L2 ++ entsB f i) w4 ∧ Blk w4 K (.cells (ec z.1).toArray 76) ∧ EIs w4 F z) := ⟨S3.out.1.more hb, S3.out.2.1.keep hb, S3.out.2.2.keep hb⟩
        clear hb S3
        cases hf : folB (lastD f i) z.1 with
        | false =>
          have PO : Kp (updOk f n = false) := ⟨by
            cases ho : updOk f n with
            | false => rfl
            | true =>
              have h9 := updOk_le (i := i + 1) ho (by omega)
              rw [HSUC.out.1, hf] at h9
              simp at h9⟩
          have PE : Kp (updE f n = 1) := ⟨by rw [HE2.out, PO.out]; rfl⟩
          have PX : Kp (updX u f n = []) := ⟨by rw [HX1.out, PE.out]; rfl⟩
          clear hf
          go_wp2_with fail
          exact bodyPost_ret (results_tmp2U rfl _ _ _ _) rfl ⟨.slice none 0 0, by rw [PE.out]; rfl, by rw [PX.out]; exact World.ownsRow_nil _ _ _ _, by rw [PX.out]; exact Bytes.nil, by rw [← HFe.out]; exact S4.out.1.below⟩
        | true =>
          have HOK1 : Kp (updOk f (i + 1) = true) := ⟨by rw [HSUC.out.1, HOKI.out.1, hf]; rfl⟩
          have HXO := Kp.mk (EV.ok_of S4.out.2.2 hf)
          have HEL := Kp.mk (entB_len S4.out.2.2 hf)
          clear hf
          have p0 : w4.cell? ⟨K, 0, none⟩ = some (.int .i64 z.1.d) := S4.out.2.1.cell 0
          go_wp2_with (refine wpList_load_row rfl 76 (.tmp 7) rfl K rfl 76 (ec z.1).toArray (0, 0) _ S4.out.2.1 Try.underlying76 rfl HIX.out ?_)
          refine (putEntry_any O v (L2 ++ entsB f i) z.1 z.2.1 z.2.2 w4 S4.out.1.o HXO.out S4.out.2.2.hw S4.out.2.2.hp (fun b hb => by have := S4.out.2.2.wb b hb; have := S4.out.1.fo; omega) (fun b hb => by have := S4.out.2.2.pb b hb; have := S4.out.1.fo; omega) (by rw [List.length_append, HL2.out.1]; have := HOKI.out.2; have := HN8.out; omega)).mono ?_
          rintro r w5 ⟨rfl, v5, s5⟩
          rw [List.append_assoc, show entB z.1 z.2.1 z.2.2 = entB (f i).1 (f i).2.1 (f i).2.2 by rw [HZ9.out], ← entsB_succ] at s5
          have S5 := Kp.mk (S4.out.1.step s5)
          have HEN : Kp ((entsB f (i + 1)).length ≤ 200 * (i + 1)) := ⟨by rw [entsB_succ, List.length_append, ← HZ9.out]; have := HOKI.out.2; have := HEL.out; omega⟩
          clear s5 p0
          go_wp2_with fail
          exact ⟨⟨i + 1, v5, by omega, by go_num, by rw [HLAST.out], ⟨HOK1.out, HEN.out⟩, S5⟩, by simp [intOf]; omega⟩
      · obtain rfl : i = n := by omega
        have PE : Kp (updE f i = 0) := ⟨by rw [HE2.out, HOKI.out.1]; rfl⟩
        have PX : Kp (updX u f i = L2 ++ entsB f i) := ⟨by rw [HX1.out, PE.out, HL2.out.2]; rfl⟩
        have HLB : Kp ((L2 ++ entsB f i).length ≤ 10000) := ⟨by rw [List.length_append, HL2.out.1]; have := HOKI.out.2; have := HN8.out; omega⟩
        go_wp2_with fail
        refine (bytes_any O v (L2 ++ entsB f i) false wr HST.out.o (by have := HLB.out; omega)).mono ?_
        rintro r w8 ⟨v8, rfl, h8, hb⟩
        have HB8 : Kp (Below F w w8) := ⟨HST.out.below.trans (hb.mono (Nat.le_of_lt HST.out.b.lt))⟩
        have HO8 : Kp (w8.ownsRow F 5 1 v8 (L2 ++ entsB f i).length (bv (L2 ++ entsB f i))) := ⟨ownsRow_base h8 (Nat.le_of_lt HST.out.b.lt)⟩
        have HY : Kp (Bytes (L2 ++ entsB f i)) := ⟨HST.out.o.bytes⟩
        clear h8 hb
        go_wp2_with fail
        exact bodyPost_ret (results_tmp2U rfl _ _ _ _) rfl ⟨v8, by rw [PE.out]; rfl, by rw [PX.out, ← HFe.out]; exact HO8.out, by rw [PX.out]; exact HY.out, by rw [← HFe.out]; exact HB8.out⟩
end Go.Proofs.Ytioeaknhcfkfcaa

namespace Go.Proofs.Ytioeaknhcfkfcaa
open Go.RowKit

theorem Rel.sum {l B : List Int} {e : Int} {at' : Nat} (h : Rel l e B at') : sumP l e = rsumP B at' e := by
  unfold sumP rsumP
  by_cases he : e = 0
  · have hl := h.ok he
    have hlen : l.length = B.length - at' := by rw [hl, List.length_drop]
    by_cases hk : 16 ≤ l.length
    · rw [if_pos ⟨he, hk⟩, if_pos ⟨he, by omega⟩, hl]
    · rw [if_neg (by omega), if_neg (by omega)]
  · rw [if_neg (by omega), if_neg (by omega)]
theorem Rel.sums {l B : List Int} {e : Int} {at' : Nat} (h : Rel l e B at') (hb : Bytes l) (hB : Bytes B) (most : Int) :
    sumsP l e most = rsumsP B at' e most ∧ sumsE l e most = rsumsE B at' e most ∧ Rel (sumsL l e most) (rsumsE B at' e most) B (rsumsA B at' e most) := by
  obtain ⟨hp, he1, hr⟩ := h.next 1
  have hm := h.many 1 (by omega) hb most
  obtain ⟨hc1, hc2⟩ := cnt1_is hB at' e
  have hov : overF most (cnt1 B at' e) = manyB l e 1 most := by rw [hm, hc1]; rfl
  have hn0 : rawE B at' e 1 ≠ 0 → cnt1 B at' e = 0 := fun hz => by unfold cnt1; rw [rawP_bad hz]; rfl
  have hov0 : overF most (cnt1 B at' e) = true → rawE B at' e 1 = 0 := fun ho => numOf_pos_ok (by rw [← hm, ← hov]; exact ho)
  have hR : manyR l e 1 most = (if overF most (cnt1 B at' e) then (0 : Int) else ((cnt1 B at' e : Nat) : Int)) := by unfold manyR; rw [hov, hp, hc1]
  have hL : manyL l e 1 most = if overF most (cnt1 B at' e) then failL (nextL l e 1) (rawE B at' e 1) 8 else nextL l e 1 := by unfold manyL; rw [hov, he1]
  have hE : manyE l e 1 most = if overF most (cnt1 B at' e) then failE (rawE B at' e 1) 8 else rawE B at' e 1 := by unfold manyE; rw [hov, he1]
  have hRE : rsumsE B at' e most = if rawE B at' e 1 ≠ 0 then rawE B at' e 1 else if overF most (cnt1 B at' e) then 8 else if cnt1 B at' e * 16 ≤ B.length - rawA B at' e 1 then 0 else 9 := rfl
  have hRA : rsumsA B at' e most = if rawE B at' e 1 ≠ 0 then rawA B at' e 1 else if overF most (cnt1 B at' e) then rawA B at' e 1 else if cnt1 B at' e * 16 ≤ B.length - rawA B at' e 1 then rawA B at' e 1 + cnt1 B at' e * 16 else rawA B at' e 1 + (B.length - rawA B at' e 1) / 16 * 16 := rfl
  have hRP : rsumsP B at' e most = if rsumsE B at' e most = 0 then (B.drop (rawA B at' e 1)).take (cnt1 B at' e * 16) else [] := rfl
  unfold sumsP sumsE sumsL sumsN
  clear hm hov he1 hp hc1
  generalize rsumsE B at' e most = RE at *
  generalize rsumsA B at' e most = RA at *
  generalize rsumsP B at' e most = RP at *
  generalize rawE B at' e 1 = e1 at *
  generalize rawA B at' e 1 = a1 at *
  generalize cnt1 B at' e = n at *
  generalize manyR l e 1 most = mR at *
  generalize manyL l e 1 most = mL at *
  generalize manyE l e 1 most = mE at *
  generalize nextL l e 1 = l1 at *
  by_cases hlim : overF most n = true
  · have hz := hov0 hlim
    subst hz
    rw [if_pos hlim] at hR hL hE
    rw [if_neg (by simp), if_pos hlim] at hRE hRA
    rw [failL_yes rfl (by decide)] at hL
    rw [failE_yes rfl (by decide)] at hE
    rw [hRE, if_neg (by decide)] at hRP
    rw [hR, hL, hE, hRE, hRP]
    exact ⟨rfl, rfl, fun h => absurd h (by decide), fun _ => rfl⟩
  · rw [if_neg hlim] at hR hL hE
    rw [hR, hL, hE, Int.toNat_natCast]
    clear hR hL hE
    obtain ⟨h1, h2, h3⟩ := hr.next (n * 16)
    by_cases hz : e1 = 0
    · subst hz
      rw [if_neg (by simp), if_neg hlim] at hRE hRA
      by_cases hf : n * 16 ≤ B.length - a1
      · rw [if_pos hf] at hRE hRA
        rw [hRE, if_pos rfl] at hRP
        rw [hRE, hRA, hRP]
        rw [rawP_fit hf] at h1
        rw [rawE_fit hf] at h2 h3
        rw [rawA_fit hf] at h3
        exact ⟨h1, h2, h3⟩
      · rw [if_neg hf] at hRE hRA
        rw [hRE, if_neg (by decide)] at hRP
        rw [hRE, hRP]
        rw [rawP_short (by omega)] at h1
        rw [rawE_short (by omega)] at h2 h3
        exact ⟨h1, h2, fun h => absurd h (by decide), h3.bad⟩
    · have hn := hn0 hz
      subst hn
      rw [if_pos hz] at hRE hRA
      rw [hRE, if_neg hz] at hRP
      rw [hRE, hRA, hRP]
      rw [rawP_err hz] at h1
      rw [rawE_err hz] at h2 h3
      exact ⟨h1, h2, fun h => absurd h hz, h3.bad⟩
theorem Turn.cells {b : Nat} {t : TypeId} {w : World} : ∀ (vs : List Value) (o : Nat) (w' : World) (C : List Value), o + vs.length ≤ C.length → Turn b (.cells C.toArray t) w w' → Turn b (.cells (splice C o vs).toArray t) w (w'.setCells b o vs)
  | [], o, w', C, _, h => by
    have e : splice C o [] = C := by simp [splice]
    rw [e]
    exact h
  | v :: r, o, w', C, hl, h => by
    have h0 := h.set o v
    rw [List.setIfInBounds_toArray] at h0
    have h1 := Turn.cells r (o + 1) _ (C.set o v) (by simp at hl ⊢; omega) h0
    have e : splice (C.set o v) (o + 1) r = splice C o (v :: r) := by
      simp at hl
      unfold splice
      have e1 : (C.set o v).take (o + 1) = C.take o ++ [v] := by
        rw [List.take_add_one, List.take_set_of_le (Nat.le_refl o)]
        simp [List.getElem?_set_self (show o < C.length by omega)]
      have e2 : (C.set o v).drop (o + 1 + r.length) = C.drop (o + 1 + r.length) := List.drop_set_of_lt (by omega)
      rw [e1, e2, List.append_assoc, List.singleton_append, List.cons_append, List.length_cons, show o + 1 + r.length = o + (r.length + 1) by omega]
    rw [e] at h1
    exact h1
def x0 : EV := ⟨0, 0, 0, 0, fill 16 [], none, 0, 0, none, 0, 0⟩
theorem ec_set1 (x : EV) (n : Int) : (ec x).toArray.setIfInBounds 1 (.int .u32 n) = (ec { x with e := n }).toArray := by simp [ec]
theorem ec_set2 (x : EV) (n : Int) : (ec x).toArray.setIfInBounds 2 (.int .u32 n) = (ec { x with s := n }).toArray := by simp [ec]
theorem ec_set3 (x : EV) (n : Int) : (ec x).toArray.setIfInBounds 3 (.int .i64 n) = (ec { x with m := n }).toArray := by simp [ec]
theorem ec_set20 {x : EV} (h : x.lf.length = 16) (a : Option Addr) (n c : Nat) : (ec x).toArray.setIfInBounds 20 (.slice a n c) = (ec { x with wa := a, wn := n, wc := c }).toArray := by
  simp [ec, List.set_append, h]
theorem ec_set21 {x : EV} (h : x.lf.length = 16) (a : Option Addr) (n c : Nat) : (ec x).toArray.setIfInBounds 21 (.slice a n c) = (ec { x with pa := a, pn := n, pc := c }).toArray := by
  simp [ec, List.set_append, h]
theorem ec_splice {x : EV} {l : List Int} (h : x.lf.length = 16) (hl : l.length = 16) : splice (ec x) 4 (bv l) = ec { x with lf := l } := by
  have e : (ec x).drop 20 = [.slice x.wa x.wn x.wc, .slice x.pa x.pn x.pc] := by
    unfold ec
    exact List.drop_left' (by simp [h])
  unfold splice
  rw [List.length_map, hl, show 4 + 16 = 20 from rfl, e]
  simp [ec]
/-- A place and an error. -/
def stp (B : List Int) (k : Nat) (s : Nat × Int) : Nat × Int := (rawA B s.1 s.2 k, rawE B s.1 s.2 k)
def ssm (B : List Int) (most : Int) (s : Nat × Int) : Nat × Int := (rsumsA B s.1 s.2 most, rsumsE B s.1 s.2 most)
def gs1 (B : List Int) (s : Nat × Int) := stp B 1 s
def gs2 (B : List Int) (s : Nat × Int) := stp B 4 (gs1 B s)
def gs3 (B : List Int) (s : Nat × Int) := stp B 1 (gs2 B s)
def gs4 (B : List Int) (s : Nat × Int) := stp B 1 (gs3 B s)
def gs5 (B : List Int) (s : Nat × Int) := stp B 16 (gs4 B s)
def gs6 (B : List Int) (s : Nat × Int) := ssm B 3 (gs5 B s)
def gs7 (B : List Int) (s : Nat × Int) := ssm B 6 (gs6 B s)
def nD (B : List Int) (s : Nat × Int) : Int := numOf (rawP B s.1 s.2 1)
def nE (B : List Int) (s : Nat × Int) : Int := numOf (rawP B (gs1 B s).1 (gs1 B s).2 4)
def nS (B : List Int) (s : Nat × Int) : Int := numOf (rawP B (gs2 B s).1 (gs2 B s).2 1)
def nM (B : List Int) (s : Nat × Int) : Int := numOf (rawP B (gs3 B s).1 (gs3 B s).2 1)
def nL (B : List Int) (s : Nat × Int) : List Int := rsumP B (gs4 B s).1 (gs4 B s).2
def nW (B : List Int) (s : Nat × Int) : List Int := rsumsP B (gs5 B s).1 (gs5 B s).2 3
def nP (B : List Int) (s : Nat × Int) : List Int := rsumsP B (gs6 B s).1 (gs6 B s).2 6
/-- getEntry, on its way. -/
structure GE (w : World) (I R K : Nat) (x : EV) (l : List Int) (e : Int) (W : World) : Prop where
  i : InIs W I I l e
  r : Blk W R (.cells (ec x0).toArray 76)
  k : Blk W K (.cells (ec x).toArray 76)
  t : ∃ o, Turn I o w W
  iw : I < w.heap.size
  wr : w.heap.size ≤ R
  rk : R < K
  xl : x.lf.length = 16
theorem GE.read {w W W' : World} {I R K : Nat} {x : EV} {l l' : List Int} {e e' : Int} (h : GE w I R K x l e W) (hs : InStep I I l' e' W W') : GE w I R K x l' e' W' := by
  have h1 := h.iw
  have h2 := h.wr
  have h3 := h.rk
  obtain ⟨o, ho⟩ := h.t
  refine ⟨hs.is, hs.keep h.r (by omega), hs.keep h.k (by omega), ?_, h1, h2, h3, h.xl⟩
  obtain ⟨_, o2, ho2⟩ := hs
  exact ⟨o2, ho.trans ho2⟩
theorem GE.put {w W W' : World} {I R K : Nat} {x x' : EV} {l : List Int} {e : Int} (h : GE w I R K x l e W) (hT : Turn K (.cells (ec x').toArray 76) W W') (hl : x'.lf.length = 16) : GE w I R K x' l e W' := by
  have h1 := h.iw
  have h2 := h.wr
  have h3 := h.rk
  obtain ⟨o, ho⟩ := h.t
  exact ⟨h.i.turn hT (by omega) (by omega), hT.keep h.r (by omega), hT.blk, ⟨o, ho.upto (hT.below (B := w.heap.size) (by omega) ho.size) (Nat.le_refl _) h1⟩, h1, h2, h3, hl⟩
end Go.Proofs.Ytioeaknhcfkfcaa
