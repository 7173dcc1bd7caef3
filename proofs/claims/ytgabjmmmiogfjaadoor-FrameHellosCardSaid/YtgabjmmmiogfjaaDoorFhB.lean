/-
  frame.PutHello.
-/
import Derived.Test.YtgabjmmmiogfjaaDoorFhA
namespace Go.Proofs.YtgabjmmmiogfjaaDoor
open Go.RowKit

/-- The bytes of numbers of 32 bits. -/
def numsB (l : List Int) : List Int := l.flatMap fun x => digs x 4
theorem numsB_app (l m : List Int) : numsB (l ++ m) = numsB l ++ numsB m := by simp [numsB]
theorem take_one {l : List Int} {i : Nat} (h : i < l.length) : l.take (i + 1) = l.take i ++ [l.getD i 0] := by
  rw [List.take_add_one, List.getD_eq_getElem?_getD, List.getElem?_eq_getElem h]
  rfl
theorem numsB_step {l : List Int} {i : Nat} (h : i < l.length) : numsB (l.take (i + 1)) = numsB (l.take i) ++ digs (l.getD i 0) 4 := by
  rw [take_one h, numsB_app]
  simp [numsB]
theorem numsB_len (l : List Int) : (numsB l).length = 4 * l.length := by
  induction l with
  | nil => rfl
  | cons x r ih =>
    have : numsB (x :: r) = digs x 4 ++ numsB r := by simp [numsB]
    rw [this, List.length_append, digs_len, ih, List.length_cons]
    omega
/-- The bytes of a Hello. -/
def helloB (hd : Int) (l : List Int) : List Int := digs hd 1 ++ digs (l.take 8).length 1 ++ numsB (l.take 8)
theorem HoldsU.step {w w' : World} {O M : Nat} {v v' s : Value} {l l' us : List Int} {f f' : Bool} (h : OutStep O v v' l' f' w w') (h0 : OutIs w O v l f) (hs : HoldsU w M s us) (hM : M ≤ O) : HoldsU w' M s us :=
  hs.frame h.size fun k hk hk2 => h.other k hk2 (by omega) (fun e => by have := (h0.row.lt k e).1; omega)
/-- PutHello, on its way. -/
structure HSt (w : World) (F O : Nat) (cs : Array Value) (s : Value) (us : List Int) (v : Value) (L : List Int) (W : World) : Prop where
  o : OutIs W O v L false
  b : Blk W F (.cells cs 71)
  u : HoldsU W F s us
  below : Below F w W
  fo : F < O
theorem HSt.step {w W W' : World} {F O : Nat} {cs : Array Value} {s v v' : Value} {us L L' : List Int} (h : HSt w F O cs s us v L W) (hs : OutStep O v v' L' false W W') : HSt w F O cs s us v' L' W' := by
  have hn := h.o.ne h.fo
  refine ⟨hs.is, hs.keep h.b hn.1 hn.2, HoldsU.step hs h.o h.u (by have := h.fo; omega), hs.belowNew h.below (by have := h.fo; omega) (fun k hk => ?_) (by have := h.b.lt; omega), h.fo⟩
  have := NewV.of h.o.row k hk
  have := h.fo
  omega
theorem front8 {l : List Int} {n k : Nat} (hn : n = l.length) (hk : k = min n 8) : l.take k = l.take 8 := by
  by_cases h : n ≤ 8
  · rw [List.take_of_length_le (by omega), List.take_of_length_le (by omega)]
  · rw [show k = 8 by omega]
set_option maxRecDepth 100000 in
set_option maxHeartbeats 4000000 in
theorem phello_any (hd : Int) (v : Value) (l : List Int) (w : World) (h : HoldsU w w.heap.size v l) (hhd : 0 ≤ hd ∧ hd ≤ 255) :
    Calls Tryd.prog 28 #[.agg #[.int .u8 hd, v]] w fun r w' => ∃ u, r = .returned u ∧ w'.ownsRow w.heap.size 5 1 u (helloB hd l).length (bv (helloB hd l)) ∧ Bytes (helloB hd l) ∧ Below w.heap.size w w' := by
  obtain ⟨a, n, c, rfl, hn⟩ := h.slice
  have hmax := h.len
  unfold maxLen at hmax
  obtain ⟨k, hk⟩ : ∃ k : Nat, k = min n 8 := ⟨_, rfl⟩
  have hmin : min (n : Int) 8 = (k : Int) := by omega
  obtain ⟨v', hv', hp'⟩ := h.front (k := k) (by omega)
  rw [front8 hn hk] at hp'
  obtain ⟨a', n', c', rfl, hn'⟩ := hp'.slice
  obtain ⟨us, hus⟩ : ∃ us, us = l.take 8 := ⟨_, rfl⟩
  have HE : Kp (helloB hd l = digs hd 1 ++ digs us.length 1 ++ numsB us) := ⟨by rw [hus]; rfl⟩
  have h8 : us.length ≤ 8 := by rw [hus, List.length_take]; omega
  rw [← hus] at hp' hn'
  have H := Kp.mk hp'
  have HN := Kp.mk hn'
  have H8 := Kp.mk h8
  have HU : Kp (U32s us) := ⟨hp'.u32s⟩
  have hn8 : n' ≤ 8 := by omega
  have hw1 : IntKind.u64.wrap hd = hd := u64_wrap (by omega)
  have hw2 : IntKind.u64.wrap (n' : Int) = n' := u64_wrap (by omega)
  generalize helloB hd l = HB at *
  clear hk hp' hn' h8 hus h hn hmax
  go_enter Tryd.func28, Tryd.ntmps28
  go_wp2_with fail
  refine (lay_any _).mono ?_
  rintro r w2 ⟨rfl, rfl⟩
  obtain ⟨F, hF⟩ : ∃ F, F = w.heap.size := ⟨_, rfl⟩
  have HFe := Kp.mk hF
  obtain ⟨O, hO⟩ : ∃ O, O = (w.alloc (.cells #[.int .u8 hd, .slice a n c] 71)).heap.size := ⟨_, rfl⟩
  have S0 : Kp (HSt w F O #[.int .u8 hd, .slice a n c] (.slice a' n' c') us (.slice none 0 0) [] ((w.alloc (.cells #[.int .u8 hd, .slice a n c] 71)).alloc (outObj (.slice none 0 0) false))) := ⟨by rw [hO]; exact ⟨OutIs.laid _, (Blk.newAt _ hF).old _, by rw [hF]; exact (H.out.alloc _).alloc _, by rw [hF]; exact more (more (Below.refl _ _) _) _, by rw [hF]; simp⟩⟩
  rw [← hO, ← hF]
  clear hO hF
  generalize (w.alloc (.cells #[.int .u8 hd, .slice a n c] 71)).alloc (outObj (.slice none 0 0) false) = W0 at *
  have p0 : W0.cell? ⟨F, 0, none⟩ = some (.int .u8 hd) := S0.out.b.cell 0
  go_wp2_with fail
  refine (u8o_any O _ _ _ hd W0 S0.out.o (by omega) (by omega) (by simp)).mono ?_
  rintro r w1 ⟨rfl, v1, s1⟩
  have e1 := numL_ok (l := ([] : List Int)) (n := hd) (k := 1) (by omega)
  rw [e1.1, e1.2, List.nil_append] at s1
  have S1 := Kp.mk (S0.out.step s1)
  clear s1 e1 p0
  obtain ⟨L1, hL1⟩ : ∃ L1, L1 = digs hd 1 := ⟨_, rfl⟩
  have H1 : Kp (L1.length = 1) := ⟨by rw [hL1]; simp [digs_len]⟩
  rw [← hL1] at S1 HE
  clear hL1
  go_wp2_with fail
  refine (u8o_any O _ _ _ n' w1 S1.out.o (by omega) (by omega) (by rw [H1.out]; omega)).mono ?_
  rintro r w2 ⟨rfl, v2, s2⟩
  have e2 := numL_ok (l := L1) (n := n') (k := 1) (by omega)
  rw [e2.1, e2.2, HN.out] at s2
  have S2 := Kp.mk (S1.out.step s2)
  clear s2 e2
  obtain ⟨L2, hL2⟩ : ∃ L2, L2 = L1 ++ digs us.length 1 := ⟨_, rfl⟩
  have H2 : Kp (L2.length = 2) := ⟨by rw [hL2]; simp [digs_len, H1.out]⟩
  rw [← hL2] at S2 HE
  clear hL2 S0 S1 H1
  go_wp2_with fail
  go_loopw [29] (fun ct wr => ∃ (i : Nat) (vr : Value), i ≤ n' ∧ ct = .int .i64 i ∧ HSt w F O #[.int .u8 hd, .slice a n c] (.slice a' n' c') us vr (L2 ++ numsB (us.take i)) wr) (fun c _ => n' - (intOf c).toNat)
  case atStart => exact ⟨0, v2, by omega, rfl, by rw [List.take_zero]; simp only [numsB, List.flatMap_nil, List.append_nil]; exact S2.out⟩
  case round =>
    obtain ⟨i, vr, hi', rfl, hst⟩ := hrel
    have HST := Kp.mk hst
    clear hst
    by_cases hlt : i < n'
    · obtain ⟨b, off, rfl, -, hc⟩ := HST.out.u.cellAt (i := i) (by have := HN.out; omega)
      have hx := HU.out.at (i := i) (by have := HN.out; omega)
      have HX : Kp (numsB (us.take (i + 1)) = numsB (us.take i) ++ digs (us.getD i 0) 4) := ⟨numsB_step (by have := HN.out; omega)⟩
      have HL : Kp ((L2 ++ numsB (us.take i)).length ≤ 1000) := ⟨by rw [List.length_append, H2.out, numsB_len, List.length_take]; have := H8.out; omega⟩
      generalize us.getD i 0 = x at *
      have HXB := Kp.mk hx
      have hw3 : IntKind.u64.wrap x = x := u64_wrap (by omega)
      clear hx
      go_wp2_with fail
      refine (u32o_any O _ _ _ x wr HST.out.o (by have := HXB.out; omega) (by have := HXB.out; omega) (by have := HL.out; omega)).mono ?_
      rintro r w5 ⟨rfl, v5, s5⟩
      have e5 := numL_ok (l := L2 ++ numsB (us.take i)) (n := x) (k := 4) (by have := HXB.out; omega)
      rw [e5.1, e5.2, List.append_assoc, ← HX.out] at s5
      have S5 := Kp.mk (HST.out.step s5)
      clear s5 e5
      go_wp2_with fail
      exact ⟨⟨i + 1, v5, by omega, by go_num, S5.out⟩, by simp [intOf]; omega⟩
    · obtain rfl : i = n' := by omega
      have hl : L2 ++ numsB (us.take i) = HB := by rw [HE.out, HN.out, List.take_of_length_le (Nat.le_refl _)]
      have hst := HST.out
      rw [hl] at hst
      have S5 := Kp.mk hst
      have HLN : Kp (HB.length ≤ 1000) := ⟨by rw [HE.out, List.length_append, H2.out, numsB_len]; have := H8.out; omega⟩
      clear hl hst HST
      go_wp2_with fail
      refine (bytes_any O _ _ _ wr S5.out.o (by have := HLN.out; omega)).mono ?_
      rintro r w8 ⟨v8, rfl, h8, hb⟩
      have HB8 : Kp (Below F w w8) := ⟨S5.out.below.trans (hb.mono (by have := S5.out.b.lt; omega))⟩
      have HO8 : Kp (w8.ownsRow F 5 1 v8 HB.length (bv HB)) := ⟨ownsRow_base h8 (by have := S5.out.b.lt; omega)⟩
      have HY : Kp (Bytes HB) := ⟨S5.out.o.bytes⟩
      clear h8 hb
      go_wp2_with fail
      go_ret
      exact ⟨v8, rfl, by rw [← HFe.out]; exact HO8.out, HY.out, by rw [← HFe.out]; exact HB8.out⟩
end Go.Proofs.YtgabjmmmiogfjaaDoor
