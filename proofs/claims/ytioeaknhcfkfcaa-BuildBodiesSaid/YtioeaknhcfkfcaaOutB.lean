/-
  The contracts of Out's numbers.
-/
import Derived.Test.YtioeaknhcfkfcaaOutA
import Derived.IntWalk
namespace Go.Proofs.Ytioeaknhcfkfcaa
open Go.RowKit

set_option maxHeartbeats 800000 in
theorem giveUp_any (O : Nat) (v : Value) (l : List Int) (f : Bool) (w : World) (h : OutIs w O v l f) :
    Calls Try.prog 68 #[.pointer (some ⟨O, 0, none⟩)] w fun r w' => r = .returned (.tuple #[]) ∧ OutStep O v (.slice none 0 0) [] true w w' := by
  have H := Lib.hid h
  obtain ⟨c0, c1, f0, f1⟩ := h.blk.two
  have lO := h.blk.lt
  obtain ⟨a, n, cap, rfl⟩ := h.shape
  clear h
  go_enter Try.func68, Try.ntmps68
  go_wp2_with fail
  go_end0
  have hT : Turn O (outObj (.slice none 0 0) true) w ((w.setCell ⟨O, 0, none⟩ (.slice none 0 0)).setCell ⟨O, 1, none⟩ (.bool true)) := (((Turn.same H.out.blk).set 0 _).set 1 _).as rfl
  exact ⟨rfl, ⟨hT.blk, World.ownsRow_nil _ _ _ _, Bytes.nil⟩, hT.os, hT.tape, hT.output, hT.size, fun k hk hO _ => hT.other k hk hO, fun k hk => by simp [Value.ownBlock] at hk⟩

/-- A number's bytes, the highest first. -/
def digs (n : Int) (k : Nat) : List Int := (List.range k).map fun i => n / 256 ^ (k - 1 - i) % 256
theorem digs_len (n : Int) (k : Nat) : (digs n k).length = k := by simp [digs]
theorem digs_bytes (n : Int) (k : Nat) : Bytes (digs n k) := by
  intro x hx
  unfold digs at hx
  obtain ⟨i, _, rfl⟩ := List.mem_map.1 hx
  omega
theorem digs_take {n : Int} {k i : Nat} (h : i < k) : (digs n k).take (i + 1) = (digs n k).take i ++ [n / 256 ^ (k - 1 - i) % 256] := by
  have hl : i < (digs n k).length := by rw [digs_len]; exact h
  rw [List.take_succ_eq_append_getElem hl]
  simp [digs]
def numL (l : List Int) (f : Bool) (n : Int) (k : Nat) : List Int := if 256 ^ k ≤ n then [] else if f then l else l ++ digs n k
def numF (f : Bool) (n : Int) (k : Nat) : Bool := f || decide (256 ^ k ≤ n)
theorem wrap_u8 (a : Int) : IntKind.u8.wrap a = a % 256 := by simp [IntKind.wrap, IntKind.bits, IntKind.signed]
/-- One byte in a new block. -/
theorem HoldsB.one (w : World) (x : Int) (h0 : 0 ≤ x) (h1 : x ≤ 255) : HoldsB (w.alloc (.cells #[.int .u8 x] 5)) (w.heap.size + 1) (.slice (some ⟨w.heap.size, 0, none⟩) 1 1) [x] := by
  refine ⟨_, 1, rfl, Nat.le_refl _, by unfold maxLen; omega, (fun e => by cases e), (fun y hy _ => by cases hy; exact ⟨rfl, Nat.lt_succ_self _, by simp⟩), (fun y i hy hi => ?_), fun y hy => by simp at hy; omega⟩
  cases hy
  simp at hi
  subst hi
  exact (Blk.new w (.cells #[.int .u8 x] 5)).cell 0
def NumPost (O : Nat) (v : Value) (l : List Int) (f : Bool) (n : Int) (k : Nat) (w : World) (r : Ending) (w' : World) : Prop := r = .returned (.tuple #[]) ∧ ∃ v', OutStep O v v' (numL l f n k) (numF f n k) w w'
/-- Behind i bytes. -/
def partL (l : List Int) (f : Bool) (n : Int) (k i : Nat) : List Int := if f then l else l ++ (digs n k).take i
theorem partL_step {l : List Int} {f : Bool} {n : Int} {k i : Nat} (h : i < k) {x : Int} (hx : x = n / 256 ^ (k - 1 - i) % 256) : putL (partL l f n k i) [x] f = partL l f n k (i + 1) := by
  unfold putL partL
  cases f
  · simp only [Bool.false_eq_true, if_false]
    rw [digs_take h, hx, List.append_assoc]
  · rfl
theorem partL_len (l : List Int) (f : Bool) (n : Int) (k i : Nat) : (partL l f n k i).length ≤ l.length + k := by
  unfold partL
  split
  · omega
  · rw [List.length_append, List.length_take, digs_len]; omega
theorem partL_all (l : List Int) (f : Bool) (n : Int) (k : Nat) (h : ¬ 256 ^ k ≤ n) : partL l f n k k = numL l f n k := by
  unfold partL numL
  rw [if_neg h, List.take_of_length_le (by rw [digs_len]; omega)]
theorem partL_none (l : List Int) (f : Bool) (n : Int) (k : Nat) : partL l f n k 0 = l := by
  unfold partL
  split <;> simp

set_option maxHeartbeats 3200000 in
theorem number_2 (O : Nat) (v : Value) (l : List Int) (f : Bool) (n : Int) (w : World) (h : OutIs w O v l f) (hn0 : 0 ≤ n) (hn1 : n < 18446744073709551616) (hlen : l.length ≤ 1000000000000) :
    Calls Try.prog 50 #[.pointer (some ⟨O, 0, none⟩), .int .u64 n, .int .i64 2] w (NumPost O v l f n 2 w) := by
  have H := Lib.hid h
  clear h
  by_cases hbig : 65536 ≤ n
  · have hl : Hid (numL l f n 2 = [] ∧ numF f n 2 = true) := by
      unfold Hid numL numF
      rw [if_pos (by simpa using hbig)]
      exact ⟨rfl, by simp; right; simpa using hbig⟩
    have t0 : (n / 65536 == 0) = false := by simp; omega
    have t0' : (n / 65536 != 0) = true := by simp; omega
    clear hbig
    go_enter Try.func50, Try.ntmps50
    go_wp2_with fail
    refine (giveUp_any O v l f _ H.out).mono ?_
    rintro r w1 ⟨rfl, h1⟩
    have H1 := Lib.hid h1
    clear h1
    go_wp2_with fail
    go_end0
    exact ⟨rfl, _, by rw [hl.out.1, hl.out.2]; exact H1.out⟩
  · have hl : Hid (partL l f n 2 2 = numL l f n 2 ∧ numF f n 2 = f) := by
      refine ⟨partL_all l f n 2 (by simpa using hbig), ?_⟩
      unfold numF
      rw [decide_eq_false (by simpa using hbig), Bool.or_false]
    have t0 : (n / 65536 == 0) = true := by simp; omega
    have t0' : (n / 65536 != 0) = false := by simp; omega
    go_enter Try.func50, Try.ntmps50
    go_wp2_with fail
    have HST := Lib.hid (OutStep.below H.out (Below.refl _ w))
    go_loopw [6] (fun c wr => ∃ i : Nat, ∃ vr, i ≤ 2 ∧ c = .int .i64 ((2 : Int) - 1 - i) ∧ OutStep O v vr (partL l f n 2 i) f w wr) (fun c _ => (intOf c + 1).toNat)
    case atStart => exact ⟨0, v, by omega, rfl, by rw [partL_none]; exact HST.out⟩
    case round =>
      obtain ⟨i, vr, hi, rfl, hst⟩ := hrel
      have HSR := Lib.hid hst
      clear hst
      have hcs : i = 0 ∨ i = 1 ∨ i = 2 := by omega
      rcases hcs with rfl | rfl | rfl
      · have hx : Hid (n / 256 = n / 256 ^ (2 - 1 - 0) % 256) := by unfold Hid; simp; omega
        have hx0 : 0 ≤ n / 256 ∧ n / 256 ≤ 255 := by omega
        have HX0 := Lib.hid hx0
        clear hx0
        go_wp2_with fail
        generalize hxe : n / 256 = x at hx HX0 ⊢
        refine (put_any O _ vr _ _ [x] f _ (HSR.out.is.keep (more (Below.refl _ _) _)) (HoldsB.one wr x HX0.out.1 HX0.out.2) (by have := partL_len l f n 2 0; simp; omega)).mono ?_
        rintro r w2 ⟨rfl, v2, h2⟩
        have H2 := Lib.hid h2
        clear h2
        go_wp2_with fail
        exact ⟨⟨1, v2, by omega, by go_num, by have := HSR.out.trans (OutStep.ahead HSR.out.is (more (Below.refl _ _) _) H2.out); rw [partL_step (by omega) hx.out] at this; exact this⟩, by simp [intOf]⟩
      · have hx : Hid (n % 256 = n / 256 ^ (2 - 1 - 1) % 256) := by unfold Hid; simp
        have hx0 : 0 ≤ n % 256 ∧ n % 256 ≤ 255 := by omega
        have HX0 := Lib.hid hx0
        clear hx0
        go_wp2_with fail
        generalize n % 256 = x at hx HX0 ⊢
        refine (put_any O _ vr _ _ [x] f _ (HSR.out.is.keep (more (Below.refl _ _) _)) (HoldsB.one wr x HX0.out.1 HX0.out.2) (by have := partL_len l f n 2 1; simp; omega)).mono ?_
        rintro r w2 ⟨rfl, v2, h2⟩
        have H2 := Lib.hid h2
        clear h2
        go_wp2_with fail
        exact ⟨⟨2, v2, by omega, by go_num, by have := HSR.out.trans (OutStep.ahead HSR.out.is (more (Below.refl _ _) _) H2.out); rw [partL_step (by omega) hx.out] at this; exact this⟩, by simp [intOf]⟩
      · go_wp2_with fail
        go_end0
        exact ⟨rfl, vr, by rw [← hl.out.1, hl.out.2]; exact HSR.out⟩
end Go.Proofs.Ytioeaknhcfkfcaa
