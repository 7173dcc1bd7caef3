/-
  The bytes of a piece.
-/
import Derived.Test.YtioeaknhcfkfcaaPcR
import Derived.Test.YtioeaknhcfkfcaaOutG
namespace Go.Proofs.Ytioeaknhcfkfcaa
open Go.RowKit

theorem OutIs.ne {w : World} {O b : Nat} {v : Value} {l : List Int} {f : Bool} (h : OutIs w O v l f) (hb : b < O) : b ≠ O ∧ v.ownBlock ≠ some b := by
  refine ⟨by omega, fun e => ?_⟩
  have := NewV.of h.row b e
  omega
/-- The program's Put, on its way. -/
structure PSt (w : World) (F O : Nat) (p : PV) (tp : List Int) (v : Value) (L : List Int) (f : Bool) (W : World) : Prop where
  o : OutIs W O v L f
  b : Blk W F (.cells #[.int .u32 p.id, .int .i64 p.at_, .int .i64 p.many, .slice p.a p.n p.c] 103)
  t : HoldsB W F (.slice p.a p.n p.c) tp
  below : Below F w W
  fo : F < O
theorem PSt.step {w W W' : World} {F O : Nat} {p : PV} {tp L L' : List Int} {v v' : Value} {f f' : Bool} (h : PSt w F O p tp v L f W) (hs : OutStep O v v' L' f' W W') : PSt w F O p tp v' L' f' W' := by
  have hn := h.o.ne h.fo
  refine ⟨hs.is, hs.keep h.b hn.1 hn.2, hs.holds h.o h.t (by have := h.fo; omega), hs.belowNew h.below (by have := h.fo; omega) (fun k hk => ?_) (by have := h.b.lt; omega), h.fo⟩
  have := NewV.of h.o.row k hk
  have := h.fo
  omega
def putM (p : PV) (tp : List Int) : List Int := digs p.id 4 ++ digs p.at_ 1 ++ digs p.many 1 ++ digs tp.length 2 ++ tp
theorem rightB_is {p : PV} (h : rightB p = true) : 1 ≤ p.many ∧ p.many ≤ 32 ∧ 0 ≤ p.at_ ∧ p.at_ < p.many ∧ p.n ≤ 4096 := by unfold rightB at h; exact of_decide_eq_true h
theorem numL_ok {l : List Int} {n : Int} {k : Nat} (h : n < 256 ^ k) : numL l false n k = l ++ digs n k ∧ numF false n k = false := by
  unfold numL numF
  rw [if_neg (by omega), if_neg (by decide)]
  exact ⟨rfl, by simp; omega⟩
set_option maxRecDepth 100000 in
set_option maxHeartbeats 2000000 in
theorem put_bad (p : PV) (w : World) (h : rightB p = false) : Calls Try.prog 42 #[p.v] w fun r w' => r = .returned (.tuple #[.slice none 0 0, .int .i64 1]) ∧ Below w.heap.size w w' := by
  go_enter Try.func42, Try.ntmps42
  go_wp2_with fail
  refine (right_any p _).mono ?_
  rintro r w1 ⟨rfl, hb⟩
  have HB1 : Kp (Below w.heap.size w w1) := ⟨(more (Below.refl _ _) _).trans (hb.mono (by simp))⟩
  clear hb
  rw [h]
  go_wp2_with fail
  exact bodyPost_ret (results_tmp2 rfl _ _ _) rfl ⟨rfl, HB1.out⟩
set_option maxRecDepth 100000 in
set_option maxHeartbeats 4000000 in
theorem put_good (p : PV) (tp : List Int) (w : World) (h : HoldsB w w.heap.size (.slice p.a p.n p.c) tp) (hr : rightB p = true) (hid : 0 ≤ p.id ∧ p.id ≤ 4294967295) :
    Calls Try.prog 42 #[p.v] w fun r w' => ∃ v, r = .returned (.tuple #[v, .int .i64 0]) ∧ HoldsB w' w'.heap.size v (putM p tp) ∧ Below w.heap.size w w' := by
  have H := Kp.mk h
  have HR := Kp.mk (rightB_is hr)
  have hn : p.n = tp.length := by
    obtain ⟨a1, n1, c1, e1, e2⟩ := h.slice
    simp only [Value.slice.injEq] at e1
    omega
  have HNT : Kp (tp.length ≤ 4096) := ⟨by rw [← hn]; exact HR.out.2.2.2.2⟩
  have HID := Kp.mk hid
  have hw1 : IntKind.u64.wrap p.id = p.id := by simp [IntKind.wrap, IntKind.bits, IntKind.signed]; omega
  have hw2 : IntKind.u64.wrap p.at_ = p.at_ := by have := HR.out; simp [IntKind.wrap, IntKind.bits, IntKind.signed]; omega
  have hw3 : IntKind.u64.wrap p.many = p.many := by have := HR.out; simp [IntKind.wrap, IntKind.bits, IntKind.signed]; omega
  clear h hn hid
  go_enter Try.func42, Try.ntmps42
  go_wp2_with fail
  refine (right_any p _).mono ?_
  rintro r w1 ⟨rfl, hb⟩
  obtain ⟨F, hF⟩ : ∃ F, F = w.heap.size := ⟨_, rfl⟩
  have HFe := Kp.mk hF
  have HB1 : Kp (Below F w w1) := ⟨by rw [hF]; exact (more (Below.refl _ _) _).trans (hb.mono (by simp))⟩
  have HP1 : Kp (Blk w1 F (.cells #[.int .u32 p.id, .int .i64 p.at_, .int .i64 p.many, .slice p.a p.n p.c] 103)) := ⟨(Blk.newAt _ hF).keep hb⟩
  have HT1 : Kp (HoldsB w1 F (.slice p.a p.n p.c) tp) := ⟨by rw [hF]; exact (H.out.alloc _).keep hb⟩
  rw [← hF, hr]
  clear hb hF hr
  go_wp2_with fail
  refine (lay_any w1).mono ?_
  rintro r w2 ⟨rfl, rfl⟩
  obtain ⟨O, hO⟩ : ∃ O, O = w1.heap.size := ⟨_, rfl⟩
  have S2 : Kp (PSt w F O p tp (.slice none 0 0) [] false (w1.alloc (outObj (.slice none 0 0) false))) := ⟨by rw [hO]; exact ⟨OutIs.laid w1, HP1.out.old _, HT1.out.alloc _, HB1.out.alloc (by have := HP1.out.lt; omega) _, HP1.out.lt⟩⟩
  rw [← hO]
  clear hO HP1 HT1 HB1
  generalize w1.alloc (outObj (.slice none 0 0) false) = W2 at *
  have p0 : W2.cell? ⟨F, 0, none⟩ = some (.int .u32 p.id) := S2.out.b.cell 0
  go_wp2_with fail
  refine (u32o_any O _ _ _ p.id W2 S2.out.o HID.out.1 (by have := HID.out; omega) (by simp)).mono ?_
  rintro r w3 ⟨rfl, v3, s3⟩
  have e3 := numL_ok (l := []) (n := p.id) (k := 4) (by have := HID.out; omega)
  rw [e3.1, e3.2] at s3
  have S3 := Kp.mk (S2.out.step s3)
  clear s3 p0 e3
  have p1 : w3.cell? ⟨F, 1, none⟩ = some (.int .i64 p.at_) := S3.out.b.cell 1
  obtain ⟨L3, hL3⟩ : ∃ L3, L3 = [] ++ digs p.id 4 := ⟨_, rfl⟩
  have H3 : Kp (L3.length = 4) := ⟨by rw [hL3]; simp [digs_len]⟩
  rw [← hL3] at S3
  have HL3 := Kp.mk hL3
  clear hL3
  go_wp2_with fail
  refine (u8o_any O _ _ _ p.at_ w3 S3.out.o HR.out.2.2.1 (by have := HR.out; omega) (by rw [H3.out]; omega)).mono ?_
  rintro r w4 ⟨rfl, v4, s4⟩
  have e4 := numL_ok (l := L3) (n := p.at_) (k := 1) (by have := HR.out; omega)
  rw [e4.1, e4.2] at s4
  have S4 := Kp.mk (S3.out.step s4)
  clear s4 p1 e4
  have p2 : w4.cell? ⟨F, 2, none⟩ = some (.int .i64 p.many) := S4.out.b.cell 2
  obtain ⟨L4, hL4⟩ : ∃ L4, L4 = L3 ++ digs p.at_ 1 := ⟨_, rfl⟩
  have H4 : Kp (L4.length = 5) := ⟨by rw [hL4]; simp [digs_len, H3.out]⟩
  rw [← hL4] at S4
  have HL4 := Kp.mk hL4
  clear hL4
  go_wp2_with fail
  refine (u8o_any O _ _ _ p.many w4 S4.out.o (by have := HR.out; omega) (by have := HR.out; omega) (by rw [H4.out]; omega)).mono ?_
  rintro r w5 ⟨rfl, v5, s5⟩
  have e5 := numL_ok (l := L4) (n := p.many) (k := 1) (by have := HR.out; omega)
  rw [e5.1, e5.2] at s5
  have S5 := Kp.mk (S4.out.step s5)
  clear s5 p2 e5
  have p3 : w5.cell? ⟨F, 3, none⟩ = some (.slice p.a p.n p.c) := S5.out.b.cell 3
  obtain ⟨L5, hL5⟩ : ∃ L5, L5 = L4 ++ digs p.many 1 := ⟨_, rfl⟩
  have H5 : Kp (L5.length = 6) := ⟨by rw [hL5]; simp [digs_len, H4.out]⟩
  rw [← hL5] at S5
  have HL5 := Kp.mk hL5
  clear hL5
  go_wp2_with fail
  refine (blobo_any O F _ _ _ _ _ w5 S5.out.o S5.out.t (by have := S5.out.fo; omega) (by rw [H5.out]; omega)).mono ?_
  rintro r w6 ⟨rfl, v6, s6⟩
  have e6 : blobL' L5 tp false = putM p tp ∧ blobF' tp false = false := by
    unfold blobL' blobF' putM
    have := HNT.out
    rw [if_neg (by omega), if_neg (by decide), HL5.out, HL4.out, HL3.out]
    exact ⟨by simp, by simp; omega⟩
  rw [e6.1, e6.2] at s6
  have S6 := Kp.mk (S5.out.step s6)
  clear s6 p3 e6
  have HLN : Kp ((putM p tp).length ≤ 1000000) := ⟨by unfold putM; simp [digs_len]; have := HNT.out; omega⟩
  obtain ⟨PM, hPM⟩ : ∃ PM, PM = putM p tp := ⟨_, rfl⟩
  rw [← hPM] at S6 HLN
  have HPM := Kp.mk hPM
  clear hPM
  go_wp2_with fail
  refine (bytes_any O _ _ _ w6 S6.out.o (by have := HLN.out; omega)).mono ?_
  rintro r w7 ⟨v7, rfl, h7, hb⟩
  have HB7 : Kp (Below F w w7) := ⟨S6.out.below.trans (hb.mono (by have := S6.out.b.lt; omega))⟩
  have H7 : Kp (HoldsB w7 w7.heap.size v7 PM) := ⟨HoldsB.ofRow S6.out.o.bytes h7⟩
  clear h7 hb
  go_wp2_with fail
  exact bodyPost_ret (results_tmp2 rfl _ _ _) rfl ⟨v7, rfl, by rw [← HPM.out]; exact H7.out, by rw [← HFe.out]; exact HB7.out⟩
end Go.Proofs.Ytioeaknhcfkfcaa
