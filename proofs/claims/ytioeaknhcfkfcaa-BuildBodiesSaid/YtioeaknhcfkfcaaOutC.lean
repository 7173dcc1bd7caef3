/-
  The contracts of Out's U8, U32, U64, Sum, Blob.
-/
import Derived.Test.YtioeaknhcfkfcaaOutN
import Derived.Test.YtioeaknhcfkfcaaOutP
namespace Go.Proofs.Ytioeaknhcfkfcaa
open Go.RowKit

theorem u8o_any (O : Nat) (v : Value) (l : List Int) (f : Bool) (n : Int) (w : World) (h : OutIs w O v l f) (hn0 : 0 ≤ n) (hn1 : n < 18446744073709551616) (hlen : l.length ≤ 1000000000000) :
    Calls Try.prog 25 #[.pointer (some ⟨O, 0, none⟩), .int .u64 n] w (NumPost O v l f n 1 w) := by
  go_enter Try.func25, Try.ntmps25
  go_wp2_with fail
  refine (number_1 O v l f n _ h hn0 hn1 hlen).mono ?_
  rintro r w1 ⟨rfl, h1⟩
  go_wp2_with fail
  go_end0
  exact ⟨rfl, h1⟩
theorem u32o_any (O : Nat) (v : Value) (l : List Int) (f : Bool) (n : Int) (w : World) (h : OutIs w O v l f) (hn0 : 0 ≤ n) (hn1 : n < 18446744073709551616) (hlen : l.length ≤ 1000000000000) :
    Calls Try.prog 53 #[.pointer (some ⟨O, 0, none⟩), .int .u64 n] w (NumPost O v l f n 4 w) := by
  go_enter Try.func53, Try.ntmps53
  go_wp2_with fail
  refine (number_4 O v l f n _ h hn0 hn1 hlen).mono ?_
  rintro r w1 ⟨rfl, h1⟩
  go_wp2_with fail
  go_end0
  exact ⟨rfl, h1⟩
/-- What a call that lays answers. -/
def LayPost (O : Nat) (v : Value) (l : List Int) (f : Bool) (w : World) (r : Ending) (w' : World) : Prop := r = .returned (.tuple #[]) ∧ ∃ v', OutStep O v v' l f w w'
/-- Bytes below the Out are as they were. -/
theorem OutStep.holds {O M : Nat} {v v1 s : Value} {l l0 p : List Int} {f f0 : Bool} {w w1 : World} (h : OutStep O v v1 l f w w1) (h0 : OutIs w O v l0 f0) (hs : HoldsB w M s p) (hM : M ≤ O) : HoldsB w1 M s p :=
  hs.frame h.size fun k hk hk2 => h.other k hk2 (by omega) (fun e => by have := (h0.row.lt k e).1; omega)
def blobL' (l p : List Int) (f : Bool) : List Int := if 4096 < p.length then [] else if f then l else l ++ digs p.length 2 ++ p
def blobF' (p : List Int) (f : Bool) : Bool := f || decide (4096 < p.length)
theorem blob_parts {l p : List Int} {f : Bool} (h : ¬ 4096 < p.length) : blobL' l p f = putL (numL l f p.length 2) p f ∧ blobF' p f = f ∧ numF f p.length 2 = f := by
  have h2 : ¬ (256 ^ 2 : Int) ≤ p.length := by simp; omega
  unfold blobL' blobF' putL numL numF
  refine ⟨?_, by rw [decide_eq_false h, Bool.or_false], by rw [decide_eq_false h2, Bool.or_false]⟩
  rw [if_neg h, if_neg h2]
  cases f <;> rfl
theorem numL_len (l : List Int) (f : Bool) (n : Int) (k : Nat) : (numL l f n k).length ≤ l.length + k := by
  unfold numL
  split
  · simp
  · split
    · omega
    · rw [List.length_append, digs_len]; omega
set_option maxHeartbeats 1600000 in
theorem blobo_any (O M : Nat) (v s : Value) (l p : List Int) (f : Bool) (w : World) (h : OutIs w O v l f) (hs : HoldsB w M s p) (hM : M ≤ O) (hlen : l.length ≤ 1000000000) :
    Calls Try.prog 65 #[.pointer (some ⟨O, 0, none⟩), s] w (LayPost O v (blobL' l p f) (blobF' p f) w) := by
  have H := Lib.hid h
  have HS := Lib.hid hs
  obtain ⟨a, n, cap, rfl, hn⟩ := hs.slice
  have HN := Lib.hid hn
  have hpl := hs.len
  unfold maxLen at hpl
  have hnl : n ≤ 9223372036854775807 := by omega
  clear h hs hpl
  by_cases hbig : 4096 < n
  · have hl : Hid (blobL' l p f = [] ∧ blobF' p f = true) := by
      unfold Hid blobL' blobF'
      rw [if_pos (by omega)]
      exact ⟨rfl, by simp; right; omega⟩
    clear hn
    go_enter Try.func65, Try.ntmps65
    go_wp2_with fail
    refine (giveUp_any O v l f _ H.out).mono ?_
    rintro r w1 ⟨rfl, h1⟩
    have H1 := Lib.hid h1
    clear h1
    go_wp2_with fail
    go_end0
    exact ⟨rfl, _, by rw [hl.out.1, hl.out.2]; exact H1.out⟩
  · have hl := Lib.hid (blob_parts (l := l) (p := p) (f := f) (by omega))
    clear hn
    go_enter Try.func65, Try.ntmps65
    go_wp2_with fail
    refine (u16o_any O v l f n _ H.out (by omega) (by omega) (by omega)).mono ?_
    rintro r w1 ⟨rfl, v1, h1⟩
    rw [HN.out, hl.out.2.2] at h1
    have H1 := Lib.hid h1
    clear h1
    go_wp2_with fail
    refine (put_any O M v1 _ _ p f _ H1.out.is (H1.out.holds H.out HS.out hM) (by have := numL_len l f p.length 2; have := HN.out; omega)).mono ?_
    rintro r w2 ⟨rfl, v2, h2⟩
    have H2 := Lib.hid (H1.out.trans h2)
    clear h2
    go_wp2_with fail
    go_end0
    exact ⟨rfl, v2, by rw [hl.out.1, hl.out.2.1]; exact H2.out⟩

theorem HoldsB.box (w : World) (p : List Int) (h7 : Bytes p) (h : p.length ≤ maxLen) (t : TypeId) : HoldsB (w.alloc (.cells (bv p).toArray t)) (w.heap.size + 1) (.slice (some ⟨w.heap.size, 0, none⟩) p.length p.length) p := by
  refine ⟨_, _, rfl, Nat.le_refl _, h, (fun e => by cases e), (fun y hy _ => by cases hy; exact ⟨rfl, Nat.lt_succ_self _, by simp⟩), (fun y i hy hi => ?_), h7⟩
  cases hy
  have := (Blk.new w (.cells (bv p).toArray t)).cell i
  simp only [Nat.zero_add]
  rw [this, List.getElem?_toArray, List.getElem?_map, List.getD_eq_getElem?_getD, List.getElem?_eq_getElem hi]; rfl
end Go.Proofs.Ytioeaknhcfkfcaa
