/-
  frame.putEntry.
-/
import Derived.Test.YtgabjmmmiogfjaaDoorFuF
namespace Go.Proofs.YtgabjmmmiogfjaaDoor
open Go.RowKit

/-- The bytes of an entry. -/
def entB (x : EV) (wl pl : List Int) : List Int := digs x.d 1 ++ digs x.e 4 ++ digs x.s 1 ++ digs x.m 1 ++ x.lf ++ digs x.wn 1 ++ wl ++ digs x.pn 1 ++ pl
/-- An entry that may be laid. -/
structure EV.Ok (x : EV) : Prop where
  d : 0 ≤ x.d ∧ x.d < 8
  e : 0 ≤ x.e ∧ x.e ≤ 65536
  s : 0 ≤ x.s ∧ x.s < 64
  m : 0 ≤ x.m ∧ x.m ≤ 15
  w : x.wn ≤ 3
  p : x.pn ≤ 6
  l : x.lf.length = 16
  b : Bytes x.lf
theorem HoldsS.lowStep {w w' : World} {O n : Nat} {v v' s : Value} {l l0 S : List Int} {f f0 : Bool} (st : OutStep O v v' l f w w') (h0 : OutIs w O v l0 f0) (h : HoldsS w s n S) (hd : ∀ b, s.ownBlock = some b → b < O) : HoldsS w' s n S := by
  obtain ⟨a, cap, rfl, h2, h3, h4, h5⟩ := h
  refine ⟨a, cap, rfl, h2, h3, h4, fun hn => ?_⟩
  obtain ⟨b, off, rfl, hlt, hc⟩ := h5 hn
  have hb := hd b rfl
  refine ⟨b, off, rfl, Nat.lt_of_lt_of_le hlt st.size, fun j hj => (World.cell?_of_block (w := w) (a := ⟨b, off + j, none⟩) (st.other b hlt (by omega) (fun e => ?_))).trans (hc j hj)⟩
  have := (h0.row.lt b e).1
  omega
theorem sumsL_ok {l S : List Int} {n : Nat} (h : n < 256) : sumsL' l S n false = l ++ digs n 1 ++ S ∧ sumsF' n false = false := by
  obtain ⟨e1, e2⟩ := numL_ok (l := l) (n := (n : Int)) (k := 1) (by omega)
  unfold sumsL' sumsF'
  rw [e1, e2]
  exact ⟨rfl, rfl⟩
set_option maxRecDepth 100000 in
set_option maxHeartbeats 8000000 in
theorem putEntry_any (O : Nat) (v : Value) (l : List Int) (x : EV) (wl pl : List Int) (w : World) (h : OutIs w O v l false) (hx : x.Ok) (hw : HoldsS w (.slice x.wa x.wn x.wc) x.wn wl) (hp : HoldsS w (.slice x.pa x.pn x.pc) x.pn pl)
    (hwO : ∀ b, (Value.slice x.wa x.wn x.wc).ownBlock = some b → b < O) (hpO : ∀ b, (Value.slice x.pa x.pn x.pc).ownBlock = some b → b < O) (hlen : l.length ≤ 1000000) :
    Calls Tryd.prog 51 #[.pointer (some ⟨O, 0, none⟩), ecV x] w (LayPost O v (l ++ entB x wl pl) false w) := by
  have hC := fun (w : World) => box_row (t := 115) (cs := ec x) (info115s hx.l) w
  obtain ⟨A, hA⟩ : ∃ A, A = w.heap.size := ⟨_, rfl⟩
  have HB : Kp (Blk (w.alloc (.cells (ec x).toArray 115)) A (.cells (ec x).toArray 115)) := ⟨Blk.newAt _ hA⟩
  have HI : Kp (OutIs (w.alloc (.cells (ec x).toArray 115)) O v l false) := ⟨h.keep (more (Below.refl _ _) _)⟩
  have HA : Kp (Below w.heap.size w (w.alloc (.cells (ec x).toArray 115)) ∧ OutIs w O v l false) := ⟨more (Below.refl _ _) _, h⟩
  have HW : Kp (HoldsS (w.alloc (.cells (ec x).toArray 115)) (.slice x.wa x.wn x.wc) x.wn wl) := ⟨hw.keep (more (Below.refl _ _) _)⟩
  have HP : Kp (HoldsS (w.alloc (.cells (ec x).toArray 115)) (.slice x.pa x.pn x.pc) x.pn pl) := ⟨hp.keep (more (Below.refl _ _) _)⟩
  have HO : Kp (A ≠ O ∧ v.ownBlock ≠ some A) := ⟨by have := h.blk.lt; omega, fun e => by have := (h.row.lt A e).2; omega⟩
  have HD : Kp ((∀ b, (Value.slice x.wa x.wn x.wc).ownBlock = some b → b < O) ∧ ∀ b, (Value.slice x.pa x.pn x.pc).ownBlock = some b → b < O) := ⟨hwO, hpO⟩
  have HX := Kp.mk hx
  have HL0 := Kp.mk hlen
  have HWL : Kp (wl.length ≤ 48 ∧ pl.length ≤ 96) := ⟨by obtain ⟨_, _, _, e2, _⟩ := hw; obtain ⟨_, _, _, e3, _⟩ := hp; have := hx.w; have := hx.p; omega⟩
  have k1 : IntKind.u64.wrap x.d = x.d := u64_wrap (by have := hx.d; omega)
  have k2 : IntKind.u64.wrap x.e = x.e := u64_wrap (by have := hx.e; omega)
  have k3 : IntKind.u64.wrap x.s = x.s := u64_wrap (by have := hx.s; omega)
  have k4 : IntKind.u64.wrap x.m = x.m := u64_wrap (by have := hx.m; omega)
  obtain ⟨LL, hLL⟩ : ∃ LL, LL = l ++ entB x wl pl := ⟨_, rfl⟩
  have HLL := Kp.mk hLL
  rw [← hLL]
  clear h hw hp hwO hpO hx hlen hLL
  go_enter Tryd.func51, Tryd.ntmps51
  have p0 : (w.alloc (.cells (ec x).toArray 115)).cell? ⟨w.heap.size, 0, none⟩ = some (.int .i64 x.d) := by rw [← hA]; exact HB.out.cell 0
  go_wp2_with (refine wpList_box_eq rfl 115 (.tmp 1) rfl _ rfl _ _ (hC _) ?_)
  rw [← hA]
  clear hC hA p0
  generalize w.alloc (.cells (ec x).toArray 115) = W1 at *
  have ST0 := Kp.mk (OutStep.below HI.out (Below.refl _ _))
  obtain ⟨l0, hl0⟩ : ∃ l0, l0 = l := ⟨_, rfl⟩
  have E0 := Kp.mk hl0
  have N0 : Kp (l0.length ≤ 1000000) := ⟨by rw [hl0]; exact HL0.out⟩
  rw [← hl0] at ST0
  clear hl0
  refine (u8o_any O _ l0 false x.d W1 ST0.out.is (HX.out.d.1) (by have := HX.out.d; omega) (by have := N0.out; omega)).mono ?_
  rintro r w1 ⟨rfl, v1, s1⟩
  obtain ⟨e1, e2⟩ := numL_ok (l := l0) (n := x.d) (k := 1) (by have := HX.out.d; omega)
  rw [e1, e2] at s1
  have ST1 := Kp.mk (ST0.out.trans s1)
  obtain ⟨l1, hl1⟩ : ∃ L, L = l0 ++ digs x.d 1 := ⟨_, rfl⟩
  have E1 := Kp.mk hl1
  have N1 : Kp (l1.length ≤ 1000100) := ⟨by rw [hl1, List.length_append, digs_len]; have := N0.out; omega⟩
  rw [← hl1] at ST1
  clear s1 e1 e2 hl1
  have p2 : w1.cell? ⟨A, 1, none⟩ = some (.int .u32 x.e) := (ST1.out.keep HB.out HO.out.1 HO.out.2).cell 1
  go_wp2_with fail
  refine (u32o_any O _ l1 false x.e w1 ST1.out.is (HX.out.e.1) (by have := HX.out.e; omega) (by have := N1.out; omega)).mono ?_
  rintro r w2 ⟨rfl, v2, s2⟩
  obtain ⟨e1, e2⟩ := numL_ok (l := l1) (n := x.e) (k := 4) (by have := HX.out.e; omega)
  rw [e1, e2] at s2
  have ST2 := Kp.mk (ST1.out.trans s2)
  obtain ⟨l2, hl2⟩ : ∃ L, L = l1 ++ digs x.e 4 := ⟨_, rfl⟩
  have E2 := Kp.mk hl2
  have N2 : Kp (l2.length ≤ 1000200) := ⟨by rw [hl2, List.length_append, digs_len]; have := N1.out; omega⟩
  rw [← hl2] at ST2
  clear s2 e1 e2 hl2 p2
  have p3 : w2.cell? ⟨A, 2, none⟩ = some (.int .u32 x.s) := (ST2.out.keep HB.out HO.out.1 HO.out.2).cell 2
  go_wp2_with fail
  refine (u8o_any O _ l2 false x.s w2 ST2.out.is (HX.out.s.1) (by have := HX.out.s; omega) (by have := N2.out; omega)).mono ?_
  rintro r w3 ⟨rfl, v3, s3⟩
  obtain ⟨e1, e2⟩ := numL_ok (l := l2) (n := x.s) (k := 1) (by have := HX.out.s; omega)
  rw [e1, e2] at s3
  have ST3 := Kp.mk (ST2.out.trans s3)
  obtain ⟨l3, hl3⟩ : ∃ L, L = l2 ++ digs x.s 1 := ⟨_, rfl⟩
  have E3 := Kp.mk hl3
  have N3 : Kp (l3.length ≤ 1000300) := ⟨by rw [hl3, List.length_append, digs_len]; have := N2.out; omega⟩
  rw [← hl3] at ST3
  clear s3 e1 e2 hl3 p3
  have p4 : w3.cell? ⟨A, 3, none⟩ = some (.int .i64 x.m) := (ST3.out.keep HB.out HO.out.1 HO.out.2).cell 3
  go_wp2_with fail
  refine (u8o_any O _ l3 false x.m w3 ST3.out.is (HX.out.m.1) (by have := HX.out.m; omega) (by have := N3.out; omega)).mono ?_
  rintro r w4 ⟨rfl, v4, s4⟩
  obtain ⟨e1, e2⟩ := numL_ok (l := l3) (n := x.m) (k := 1) (by have := HX.out.m; omega)
  rw [e1, e2] at s4
  have ST4 := Kp.mk (ST3.out.trans s4)
  obtain ⟨l4, hl4⟩ : ∃ L, L = l3 ++ digs x.m 1 := ⟨_, rfl⟩
  have E4 := Kp.mk hl4
  have N4 : Kp (l4.length ≤ 1000400) := ⟨by rw [hl4, List.length_append, digs_len]; have := N3.out; omega⟩
  rw [← hl4] at ST4
  clear s4 e1 e2 hl4 p4
  have pr : w4.rangeAt A 4 (bv x.lf) := fun j u hu => by
    rw [(ST4.out.keep HB.out HO.out.1 HO.out.2).cell (4 + j), List.getElem?_toArray]
    rw [← ec_lf HX.out.l, List.getElem?_take, List.getElem?_drop] at hu
    split at hu
    · exact hu
    · cases hu
  have HPR := Kp.mk pr
  clear pr
  go_wp2_with (refine wpList_load_mid rfl 83 (.tmp 29) rfl A 4 rfl (bv x.lf) _ HPR.out Tryd.underlying83 rfl (cellsL51 HX.out.l) ?_)
  refine (sumo_any O _ l4 x.lf false w4 ST4.out.is HX.out.b HX.out.l (by have := N4.out; omega)).mono ?_
  rintro r w5 ⟨rfl, v5, s5⟩
  rw [show putL l4 x.lf false = l4 ++ x.lf from rfl] at s5
  have ST5 := Kp.mk (ST4.out.trans s5)
  obtain ⟨l5, hl5⟩ : ∃ L, L = l4 ++ x.lf := ⟨_, rfl⟩
  have E5 := Kp.mk hl5
  have N5 : Kp (l5.length ≤ 1000500) := ⟨by rw [hl5, List.length_append, HX.out.l]; have := N4.out; omega⟩
  rw [← hl5] at ST5
  clear s5 hl5 HPR
  have q6 : w5.cell? ⟨A, 20, none⟩ = some (.slice x.wa x.wn x.wc) := ((ST5.out.keep HB.out HO.out.1 HO.out.2).cell 20).trans (by rw [List.getElem?_toArray]; exact ec_20 HX.out.l)
  go_wp2_with fail
  refine (sumso_any O _ _ l5 wl x.wn false w5 ST5.out.is (HoldsS.lowStep ST5.out HI.out HW.out HD.out.1) (by have := HX.out.w; omega) (fun b hb => ⟨by have := HD.out.1 b hb; omega, fun e => by have h1 := HD.out.1 b hb; have h2 := (ST5.out.is.row.lt b e).1; omega⟩) (by have := N5.out; omega)).mono ?_
  rintro r w6 ⟨rfl, v6, s6⟩
  obtain ⟨e1, e2⟩ := sumsL_ok (l := l5) (S := wl) (n := x.wn) (by have := HX.out.w; omega)
  rw [e1, e2] at s6
  have ST6 := Kp.mk (ST5.out.trans s6)
  obtain ⟨l6, hl6⟩ : ∃ L, L = l5 ++ digs x.wn 1 ++ wl := ⟨_, rfl⟩
  have E6 := Kp.mk hl6
  have N6 : Kp (l6.length ≤ 1000700) := ⟨by rw [hl6, List.length_append, List.length_append, digs_len]; have := N5.out; have := HWL.out; omega⟩
  rw [← hl6] at ST6
  clear s6 e1 e2 hl6 q6
  have q7 : w6.cell? ⟨A, 21, none⟩ = some (.slice x.pa x.pn x.pc) := ((ST6.out.keep HB.out HO.out.1 HO.out.2).cell 21).trans (by rw [List.getElem?_toArray]; exact ec_21 HX.out.l)
  go_wp2_with fail
  refine (sumso_any O _ _ l6 pl x.pn false w6 ST6.out.is (HoldsS.lowStep ST6.out HI.out HP.out HD.out.2) (by have := HX.out.p; omega) (fun b hb => ⟨by have := HD.out.2 b hb; omega, fun e => by have h1 := HD.out.2 b hb; have h2 := (ST6.out.is.row.lt b e).1; omega⟩) (by have := N6.out; omega)).mono ?_
  rintro r w7 ⟨rfl, v7, s7⟩
  obtain ⟨e1, e2⟩ := sumsL_ok (l := l6) (S := pl) (n := x.pn) (by have := HX.out.p; omega)
  rw [e1, e2] at s7
  have ST7 := Kp.mk (ST6.out.trans s7)
  obtain ⟨l7, hl7⟩ : ∃ L, L = l6 ++ digs x.pn 1 ++ pl := ⟨_, rfl⟩
  have E7 := Kp.mk hl7
  have N7 : Kp (l7.length ≤ 1000900) := ⟨by rw [hl7, List.length_append, List.length_append, digs_len]; have := N6.out; have := HWL.out; omega⟩
  rw [← hl7] at ST7
  clear s7 e1 e2 hl7 q7
  have HALL : Kp (l7 = LL) := ⟨by rw [E7.out, E6.out, E5.out, E4.out, E3.out, E2.out, E1.out, E0.out, HLL.out]; unfold entB; simp⟩
  go_wp2_with fail
  go_end0
  exact ⟨rfl, v7, by rw [← HALL.out]; exact OutStep.ahead HA.out.2 HA.out.1 ST7.out⟩
end Go.Proofs.YtgabjmmmiogfjaaDoor
