/-
  frame.laid: what is tagged of a frame.
-/
import Derived.Test.YtgabjmmmiogfjaaDoorFrA
namespace Go.Proofs.YtgabjmmmiogfjaaDoor
open Go.RowKit

theorem NewV.of {w : World} {base n : Nat} {v : Value} {xs : List Value} (h : w.ownsRow base 5 1 v n xs) (k : Nat) (e : v.ownBlock = some k) : base ≤ k := (h.lt k e).1
theorem OutIs.ne {w : World} {O b : Nat} {v : Value} {l : List Int} {f : Bool} (h : OutIs w O v l f) (hb : b < O) : b ≠ O ∧ v.ownBlock ≠ some b := by
  refine ⟨by omega, fun e => ?_⟩
  have := NewV.of h.row b e
  omega
/-- frame.laid, on its way. -/
structure PSt (w : World) (F O : Nat) (p : FV) (tp : List Int) (v : Value) (L : List Int) (f : Bool) (W : World) : Prop where
  o : OutIs W O v L f
  b : Blk W F (p.box 30)
  t : HoldsB W F (.slice p.a p.n p.c) tp
  below : Below F w W
  fo : F < O
theorem PSt.step {w W W' : World} {F O : Nat} {p : FV} {tp L L' : List Int} {v v' : Value} {f f' : Bool} (h : PSt w F O p tp v L f W) (hs : OutStep O v v' L' f' W W') : PSt w F O p tp v' L' f' W' := by
  have hn := h.o.ne h.fo
  refine ⟨hs.is, hs.keep h.b hn.1 hn.2, hs.holds h.o h.t (by have := h.fo; omega), hs.belowNew h.below (by have := h.fo; omega) (fun k hk => ?_) (by have := h.b.lt; omega), h.fo⟩
  have := NewV.of h.o.row k hk
  have := h.fo
  omega
def headM (p : FV) : List Int := digs 1 1 ++ digs p.fr 1 ++ digs p.to 1 ++ digs p.bo 8 ++ digs p.co 8 ++ digs p.ki 1
def laidM (p : FV) (tp : List Int) : List Int := headM p ++ digs tp.length 2 ++ tp
theorem headM_len (p : FV) : (headM p).length = 20 := by simp [headM, digs_len]
theorem laidM_len (p : FV) (tp : List Int) : (laidM p tp).length = 22 + tp.length := by simp [laidM, headM_len, digs_len]; omega
theorem numL_ok {l : List Int} {n : Int} {k : Nat} (h : n < 256 ^ k) : numL l false n k = l ++ digs n k ∧ numF false n k = false := by
  unfold numL numF
  rw [if_neg (by omega), if_neg (by decide)]
  exact ⟨rfl, by simp; omega⟩
theorem u64_wrap {n : Int} (h : 0 ≤ n ∧ n < 18446744073709551616) : IntKind.u64.wrap n = n := by simp [IntKind.wrap, IntKind.bits, IntKind.signed]; omega
def BigP (p : FV) : Prop := (0 ≤ p.bo ∧ p.bo < 18446744073709551616) ∧ (0 ≤ p.co ∧ p.co < 18446744073709551616)
set_option maxRecDepth 100000 in
set_option maxHeartbeats 4000000 in
theorem laid_any (p : FV) (tp : List Int) (w : World) (h : HoldsB w w.heap.size (.slice p.a p.n p.c) tp) (hr : frB p = true) (hid : BigP p) :
    Calls Tryd.prog 34 #[p.v] w fun r w' => ∃ v, r = .returned v ∧ w'.ownsRow w.heap.size 5 1 v (laidM p tp).length (bv (laidM p tp)) ∧ Bytes (laidM p tp) ∧ Below w.heap.size w w' := by
  have H := Kp.mk h
  have HR := Kp.mk (frB_is hr)
  have hn : p.n = tp.length := by
    obtain ⟨a1, n1, c1, e1, e2⟩ := h.slice
    simp only [Value.slice.injEq] at e1
    omega
  have HNT : Kp (tp.length ≤ 4096) := ⟨by rw [← hn]; exact HR.out.2.2.2.2.2.2.2⟩
  have HTB : Kp (Bytes tp) := ⟨h.bytes⟩
  have HID := Kp.mk hid
  have hw1 : IntKind.u64.wrap p.fr = p.fr := u64_wrap (by have := HR.out; omega)
  have hw2 : IntKind.u64.wrap p.to = p.to := u64_wrap (by have := HR.out; omega)
  have hw3 : IntKind.u64.wrap p.ki = p.ki := u64_wrap (by have := HR.out; omega)
  clear h hn hid hr
  go_enter Tryd.func34, Tryd.ntmps34
  go_wp2_with fail
  refine (lay_any _).mono ?_
  rintro r w2 ⟨rfl, rfl⟩
  obtain ⟨F, hF⟩ : ∃ F, F = w.heap.size := ⟨_, rfl⟩
  have HFe := Kp.mk hF
  obtain ⟨O, hO⟩ : ∃ O, O = (w.alloc (p.box 30)).heap.size := ⟨_, rfl⟩
  have S0 : Kp (PSt w F O p tp (.slice none 0 0) [] false ((w.alloc (p.box 30)).alloc (outObj (.slice none 0 0) false))) := ⟨by rw [hO]; exact ⟨OutIs.laid _, (Blk.newAt _ hF).old _, by rw [hF]; exact (H.out.alloc _).alloc _, by rw [hF]; exact more (more (Below.refl _ _) _) _, by rw [hF]; simp⟩⟩
  rw [← hO, ← hF]
  clear hO hF
  generalize (w.alloc (p.box 30)).alloc (outObj (.slice none 0 0) false) = W0 at *
  go_wp2_with fail
  refine (u8o_any O _ _ _ 1 W0 S0.out.o (by omega) (by omega) (by simp)).mono ?_
  rintro r w1 ⟨rfl, v1, s1⟩
  have e1 := numL_ok (l := ([] : List Int)) (n := 1) (k := 1) (by decide)
  rw [e1.1, e1.2] at s1
  have S1 := Kp.mk (S0.out.step s1)
  clear s1 e1
  obtain ⟨L1, hL1⟩ : ∃ L1, L1 = ([] : List Int) ++ digs 1 1 := ⟨_, rfl⟩
  have H1 : Kp (L1.length = 1) := ⟨by rw [hL1]; simp [digs_len]⟩
  rw [← hL1] at S1
  have HL1 := Kp.mk hL1
  clear hL1
  have p0 : w1.cell? ⟨F, 0, none⟩ = some (.int .i64 p.fr) := S1.out.b.cell 0
  go_wp2_with fail
  refine (u8o_any O _ _ _ p.fr w1 S1.out.o (HR.out.1.1) (by have := HR.out; omega) (by rw [H1.out]; omega)).mono ?_
  rintro r w2 ⟨rfl, v2, s2⟩
  have e2 := numL_ok (l := L1) (n := p.fr) (k := 1) (by have := HR.out; omega)
  rw [e2.1, e2.2] at s2
  have S2 := Kp.mk (S1.out.step s2)
  clear s2 e2 p0
  obtain ⟨L2, hL2⟩ : ∃ L2, L2 = L1 ++ digs p.fr 1 := ⟨_, rfl⟩
  have H2 : Kp (L2.length = 2) := ⟨by rw [hL2]; simp [digs_len, H1.out]⟩
  rw [← hL2] at S2
  have HL2 := Kp.mk hL2
  clear hL2
  have p1 : w2.cell? ⟨F, 1, none⟩ = some (.int .i64 p.to) := S2.out.b.cell 1
  go_wp2_with fail
  refine (u8o_any O _ _ _ p.to w2 S2.out.o (by have := HR.out; omega) (by have := HR.out; omega) (by rw [H2.out]; omega)).mono ?_
  rintro r w3 ⟨rfl, v3, s3⟩
  have e3 := numL_ok (l := L2) (n := p.to) (k := 1) (by have := HR.out; omega)
  rw [e3.1, e3.2] at s3
  have S3 := Kp.mk (S2.out.step s3)
  clear s3 e3 p1
  obtain ⟨L3, hL3⟩ : ∃ L3, L3 = L2 ++ digs p.to 1 := ⟨_, rfl⟩
  have H3 : Kp (L3.length = 3) := ⟨by rw [hL3]; simp [digs_len, H2.out]⟩
  rw [← hL3] at S3
  have HL3 := Kp.mk hL3
  clear hL3
  have p2 : w3.cell? ⟨F, 2, none⟩ = some (.int .u64 p.bo) := S3.out.b.cell 2
  go_wp2_with fail
  refine (u64o_any O _ _ _ p.bo w3 S3.out.o (HID.out.1.1) (HID.out.1.2) (by rw [H3.out]; omega)).mono ?_
  rintro r w4 ⟨rfl, v4, s4⟩
  have e4 := numL_ok (l := L3) (n := p.bo) (k := 8) (by have := HID.out.1.2; omega)
  rw [e4.1, e4.2] at s4
  have S4 := Kp.mk (S3.out.step s4)
  clear s4 e4 p2
  obtain ⟨L4, hL4⟩ : ∃ L4, L4 = L3 ++ digs p.bo 8 := ⟨_, rfl⟩
  have H4 : Kp (L4.length = 11) := ⟨by rw [hL4]; simp [digs_len, H3.out]⟩
  rw [← hL4] at S4
  have HL4 := Kp.mk hL4
  clear hL4
  have p3 : w4.cell? ⟨F, 3, none⟩ = some (.int .u64 p.co) := S4.out.b.cell 3
  go_wp2_with fail
  refine (u64o_any O _ _ _ p.co w4 S4.out.o (HID.out.2.1) (HID.out.2.2) (by rw [H4.out]; omega)).mono ?_
  rintro r w5 ⟨rfl, v5, s5⟩
  have e5 := numL_ok (l := L4) (n := p.co) (k := 8) (by have := HID.out.2.2; omega)
  rw [e5.1, e5.2] at s5
  have S5 := Kp.mk (S4.out.step s5)
  clear s5 e5 p3
  obtain ⟨L5, hL5⟩ : ∃ L5, L5 = L4 ++ digs p.co 8 := ⟨_, rfl⟩
  have H5 : Kp (L5.length = 19) := ⟨by rw [hL5]; simp [digs_len, H4.out]⟩
  rw [← hL5] at S5
  have HL5 := Kp.mk hL5
  clear hL5
  have p4 : w5.cell? ⟨F, 4, none⟩ = some (.int .i64 p.ki) := S5.out.b.cell 4
  go_wp2_with fail
  refine (u8o_any O _ _ _ p.ki w5 S5.out.o (by have := HR.out; omega) (by have := HR.out; omega) (by rw [H5.out]; omega)).mono ?_
  rintro r w6 ⟨rfl, v6, s6⟩
  have e6 := numL_ok (l := L5) (n := p.ki) (k := 1) (by have := HR.out; omega)
  rw [e6.1, e6.2] at s6
  have S6 := Kp.mk (S5.out.step s6)
  clear s6 e6 p4
  obtain ⟨L6, hL6⟩ : ∃ L6, L6 = L5 ++ digs p.ki 1 := ⟨_, rfl⟩
  have H6 : Kp (L6.length = 20) := ⟨by rw [hL6]; simp [digs_len, H5.out]⟩
  rw [← hL6] at S6
  have HL6 := Kp.mk hL6
  clear hL6
  have p5 : w6.cell? ⟨F, 5, none⟩ = some (.slice p.a p.n p.c) := S6.out.b.cell 5
  go_wp2_with fail
  refine (blobo_any O F _ _ _ _ _ w6 S6.out.o S6.out.t (by have := S6.out.fo; omega) (by rw [H6.out]; omega)).mono ?_
  rintro r w7 ⟨rfl, v7, s7⟩
  have e7 : blobL' L6 tp false = laidM p tp ∧ blobF' tp false = false := by
    unfold blobL' blobF' laidM headM
    have := HNT.out
    rw [if_neg (by omega), if_neg (by decide), HL6.out, HL5.out, HL4.out, HL3.out, HL2.out, HL1.out]
    exact ⟨by simp, by simp; omega⟩
  rw [e7.1, e7.2] at s7
  have S7 := Kp.mk (S6.out.step s7)
  clear s7 p5 e7
  have HLN : Kp ((laidM p tp).length ≤ 1000000) := ⟨by rw [laidM_len]; have := HNT.out; omega⟩
  obtain ⟨PM, hPM⟩ : ∃ PM, PM = laidM p tp := ⟨_, rfl⟩
  rw [← hPM] at S7 HLN
  have HPM := Kp.mk hPM
  clear hPM
  go_wp2_with fail
  refine (bytes_any O _ _ _ w7 S7.out.o (by have := HLN.out; omega)).mono ?_
  rintro r w8 ⟨v8, rfl, h8, hb⟩
  have HB8 : Kp (Below F w w8) := ⟨S7.out.below.trans (hb.mono (by have := S7.out.b.lt; omega))⟩
  have HO8 : Kp (w8.ownsRow F 5 1 v8 PM.length (bv PM)) := ⟨ownsRow_base h8 (by have := S7.out.b.lt; omega)⟩
  have HY : Kp (Bytes PM) := ⟨S7.out.o.bytes⟩
  clear h8 hb
  go_wp2_with fail
  go_ret
  exact ⟨v8, rfl, by rw [← HPM.out, ← HFe.out]; exact HO8.out, by rw [← HPM.out]; exact HY.out, by rw [← HFe.out]; exact HB8.out⟩
end Go.Proofs.YtgabjmmmiogfjaaDoor
