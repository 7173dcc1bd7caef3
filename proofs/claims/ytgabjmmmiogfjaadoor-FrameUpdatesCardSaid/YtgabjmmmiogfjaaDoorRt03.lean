/-
  SHA-256 on lists of numbers: the words that the walks leave, put together. Nothing of the program is named here.
  math/bits.RotateLeft32 and the document's rotr: a number turned to the right.
  Arrays of numbers in memory; a part of a row of bytes. Nothing of the program but the types' numbers is named here.
  The middle of a row.
  bytes.Clone, append of bytes, and what is there, in order.
  bytes.Clone, by its other name.
  The contracts of Out's small calls.
  The contracts of Out's numbers.
  The contract of Out's numbers of 1, 4, 8 bytes.
  The contracts of Lay, U16, Bytes, and of the document's example.
  The contracts of Out's U8, U32, U64, Sum, Blob.
  The contract of Out's Sums.
-/
import Derived.Test.YtgabjmmmiogfjaaDoorRt02
import Derived.WalkKit
import Derived.Laws.BitsAllLaws
import Derived.Deep.MidRow
import Derived.Laws.CopyOwn
import Derived.ArgAppend
import Derived.OwnWalk
import Derived.IntWalk
namespace Go.Proofs.YtgabjmmmiogfjaaDoor
open Go.RowKit

abbrev w32 (x : Int) : Int := IntKind.u32.wrap x
theorem w32_mod (x : Int) : IntKind.u32.wrap x = x % 4294967296 := IntKind.wrap_u32' x
/-- A number that 32 bits hold. -/
def U32 (x : Int) : Prop := 0 ≤ x ∧ x < 4294967296
theorem U32.wrap (x : Int) : U32 (w32 x) := by unfold U32 w32; rw [w32_mod]; omega
theorem bits_wrap (op : BinOp) (x y : Int) : U32 (bits op .u32 x y) := by unfold bits; exact U32.wrap _
theorem or_comm32 (x y : Int) : bits .or .u32 x y = bits .or .u32 y x := by
  unfold bits
  simp only [BitVec.or_comm]
/-- x turned by n bits to the right. -/
def rot (x : Int) (n : Nat) : Int := bits .or .u32 (x / 2 ^ n) (w32 (x * 2 ^ (32 - n)))
theorem rot_u (x : Int) (n : Nat) : U32 (rot x n) := bits_wrap _ _ _
def sm0 (x : Int) : Int := bits .xor .u32 (bits .xor .u32 (rot x 7) (rot x 18)) (x / 8)
def sm1 (x : Int) : Int := bits .xor .u32 (bits .xor .u32 (rot x 17) (rot x 19)) (x / 1024)
def bg0 (x : Int) : Int := bits .xor .u32 (bits .xor .u32 (rot x 2) (rot x 13)) (rot x 22)
def bg1 (x : Int) : Int := bits .xor .u32 (bits .xor .u32 (rot x 6) (rot x 11)) (rot x 25)
def inv (x : Int) : Int := bits .xor .u32 4294967295 x
def chs (e f g : Int) : Int := bits .xor .u32 (bits .and .u32 e f) (bits .and .u32 (inv e) g)
def maj (a b c : Int) : Int := bits .xor .u32 (bits .xor .u32 (bits .and .u32 a b) (bits .and .u32 a c)) (bits .and .u32 b c)
/-- The eight numbers of a state. -/
structure St where
  (a b c d e f g h : Int)
deriving DecidableEq
def St.list (s : St) : List Int := [s.a, s.b, s.c, s.d, s.e, s.f, s.g, s.h]
def step1 (s : St) (k w : Int) : Int := w32 (w32 (w32 (w32 (s.h + bg1 s.e) + chs s.e s.f s.g) + k) + w)
def step2 (s : St) : Int := w32 (bg0 s.a + maj s.a s.b s.c)
def round (s : St) (k w : Int) : St := ⟨w32 (step1 s k w + step2 s), s.a, s.b, s.c, w32 (s.d + step1 s k w), s.e, s.f, s.g⟩
def kon : List Int := [
  0x428a2f98, 0x71374491, 0xb5c0fbcf, 0xe9b5dba5, 0x3956c25b, 0x59f111f1, 0x923f82a4, 0xab1c5ed5,
  0xd807aa98, 0x12835b01, 0x243185be, 0x550c7dc3, 0x72be5d74, 0x80deb1fe, 0x9bdc06a7, 0xc19bf174,
  0xe49b69c1, 0xefbe4786, 0x0fc19dc6, 0x240ca1cc, 0x2de92c6f, 0x4a7484aa, 0x5cb0a9dc, 0x76f988da,
  0x983e5152, 0xa831c66d, 0xb00327c8, 0xbf597fc7, 0xc6e00bf3, 0xd5a79147, 0x06ca6351, 0x14292967,
  0x27b70a85, 0x2e1b2138, 0x4d2c6dfc, 0x53380d13, 0x650a7354, 0x766a0abb, 0x81c2c92e, 0x92722c85,
  0xa2bfe8a1, 0xa81a664b, 0xc24b8b70, 0xc76c51a3, 0xd192e819, 0xd6990624, 0xf40e3585, 0x106aa070,
  0x19a4c116, 0x1e376c08, 0x2748774c, 0x34b0bcb5, 0x391c0cb3, 0x4ed8aa4a, 0x5b9cca4f, 0x682e6ff3,
  0x748f82ee, 0x78a5636f, 0x84c87814, 0x8cc70208, 0x90befffa, 0xa4506ceb, 0xbef9a3f7, 0xc67178f2]
theorem kon_len : kon.length = 64 := rfl
def first : St := ⟨0x6a09e667, 0xbb67ae85, 0x3c6ef372, 0xa54ff53a, 0x510e527f, 0x9b05688c, 0x1f83d9ab, 0x5be0cd19⟩
def word (l : List Int) (t : Nat) : Int := ((l.getD (4 * t) 0 * 256 + l.getD (4 * t + 1) 0) * 256 + l.getD (4 * t + 2) 0) * 256 + l.getD (4 * t + 3) 0
/-- The words of a block, and n that the standard makes of them. -/
def sched (l : List Int) : Nat → List Int
  | 0 => (List.range 16).map (word l)
  | n + 1 => sched l n ++ [w32 (w32 (w32 ((sched l n).getD n 0 + sm0 ((sched l n).getD (n + 1) 0)) + (sched l n).getD (n + 9) 0) + sm1 ((sched l n).getD (n + 14) 0))]
theorem sched_len (l : List Int) (n : Nat) : (sched l n).length = 16 + n := by
  induction n with
  | zero => simp [sched]
  | succ n ih => simp [sched, ih]; omega
def rnds (s : St) (ws : List Int) : Nat → St
  | 0 => s
  | n + 1 => round (rnds s ws n) (kon.getD n 0) (ws.getD n 0)
def St.add (x y : St) : St := ⟨w32 (x.a + y.a), w32 (x.b + y.b), w32 (x.c + y.c), w32 (x.d + y.d), w32 (x.e + y.e), w32 (x.f + y.f), w32 (x.g + y.g), w32 (x.h + y.h)⟩
/-- One block of 64 bytes taken in. -/
def block (s : St) (l : List Int) : St := s.add (rnds s (sched l 48) 64)
/-- n blocks of l. -/
def absorb (l : List Int) : Nat → St
  | 0 => first
  | n + 1 => block (absorb l n) ((l.drop (64 * n)).take 64)
/-- A number below 2^64 as eight bytes. -/
def be64 (n : Int) : List Int := (List.range 8).map fun i => n / 256 ^ (7 - i) % 256
def zeros (n : Nat) : Nat := (119 - n % 64) % 64
def tail (n : Nat) : List Int := [128] ++ List.replicate (zeros n) 0 ++ be64 (8 * (n : Int) % 18446744073709551616)
def pad (l : List Int) : List Int := l ++ tail l.length
def blocks (n : Nat) : Nat := if n % 64 ≤ 55 then n / 64 + 1 else n / 64 + 2
theorem tail_len (n : Nat) : (tail n).length = zeros n + 9 := by simp [tail, be64]
theorem pad_len (l : List Int) : (pad l).length = 64 * blocks l.length := by
  unfold pad blocks
  rw [List.length_append, tail_len]
  unfold zeros
  split <;> omega
def sumSt (l : List Int) : St := absorb (pad l) (blocks l.length)
/-- A word's bytes. -/
def be32 (n : Int) : List Int := [n / 16777216 % 256, n / 65536 % 256, n / 256 % 256, n % 256]
/-- A state's bytes. -/
def St.bytes (s : St) : List Int := be32 s.a ++ be32 s.b ++ be32 s.c ++ be32 s.d ++ be32 s.e ++ be32 s.f ++ be32 s.g ++ be32 s.h
/-- The sum of bytes. -/
def digest (l : List Int) : List Int := (sumSt l).bytes
theorem be32_len (n : Int) : (be32 n).length = 4 := rfl
theorem bytes_len (s : St) : s.bytes.length = 32 := by simp [St.bytes, be32]
theorem digest_len (l : List Int) : (digest l).length = 32 := bytes_len _
/-- The first n blocks of a text hang on these alone. -/
theorem absorb_congr {l m : List Int} (n : Nat) (h : l.take (64 * n) = m.take (64 * n)) : absorb l n = absorb m n := by
  induction n with
  | zero => rfl
  | succ n ih =>
    unfold absorb
    have h1 : l.take (64 * n) = m.take (64 * n) := by
      have := congrArg (List.take (64 * n)) h
      simpa [List.take_take, Nat.min_eq_left (show 64 * n ≤ 64 * (n + 1) by omega)] using this
    have h2 : (l.drop (64 * n)).take 64 = (m.drop (64 * n)).take 64 := by
      have := congrArg (List.drop (64 * n)) h
      rw [List.drop_take, List.drop_take] at this
      simpa [show 64 * (n + 1) - 64 * n = 64 by omega] using this
    rw [ih h1, h2]
theorem absorb_append {l m : List Int} (n : Nat) (h : 64 * n ≤ l.length) : absorb (l ++ m) n = absorb l n :=
  absorb_congr n (by rw [List.take_append_of_le_length h])
end Go.Proofs.YtgabjmmmiogfjaaDoor

namespace Go.Proofs.YtgabjmmmiogfjaaDoor
open Go.RowKit

theorem and31 (n : Nat) (h1 : 1 ≤ n) (h2 : n ≤ 31) : bits .and .u64 (IntKind.u64.wrap (-(n : Int))) 31 = ((32 - n : Nat) : Int) := by
  have e : IntKind.u64.wrap (-(n : Int)) = ((18446744073709551616 - n : Nat) : Int) := by
    simp [IntKind.wrap, IntKind.bits, IntKind.signed]
    omega
  rw [e]
  have := u64_and_nat (18446744073709551616 - n) 31 (by omega) (by omega)
  rw [show ((31 : Nat) : Int) = (31 : Int) from rfl] at this
  rw [this, nat_mask5]
  congr 1
  omega
set_option maxHeartbeats 400000 in
/-- math/bits.RotateLeft32 by -n. -/
theorem rotl (x : Int) (n : Nat) (k : Int) (w : World) (hk : k = -(n : Int)) (h1 : 1 ≤ n) (h2 : n ≤ 31) :
    Calls Tryd.prog 119 #[.int .u32 x, .int .i64 k] w fun r w' => r = .returned (.int .u32 (rot x n)) ∧ w = w' := by
  have ha := and31 n h1 h2
  rw [← hk] at ha
  obtain ⟨m, hm⟩ : ∃ m, m = 32 - n := ⟨_, rfl⟩
  have Hm := Lib.hid hm
  have Hk := Lib.hid hk
  have b1 : 1 ≤ m := by omega
  have b2 : m ≤ 31 := by omega
  rw [← hm] at ha
  clear hm hk
  go_enter Tryd.func119, Tryd.ntmps119
  go_wp2_with fail
  go_ret
  refine ⟨?_, rfl⟩
  have e1 := Hm.out
  have e2 : n = 32 - m := by omega
  subst e2
  unfold rot w32
  rw [or_comm32, show 32 - (32 - m) = m by omega]
  first
  | rfl
  | trace_state
set_option maxHeartbeats 400000 in
/-- The document's rotr. -/
theorem rotr (x : Int) (n : Nat) (k : Int) (w : World) (hk : k = (n : Int)) (h1 : 1 ≤ n) (h2 : n ≤ 31) :
    Calls Tryd.prog 117 #[.int .u32 x, .int .u64 k] w fun r w' => r = .returned (.int .u32 (rot x n)) ∧ w = w' := by
  subst hk
  go_enter Tryd.func117, Tryd.ntmps117
  go_wp2_with fail
  go_ret
  refine ⟨?_, rfl⟩
  unfold rot w32
  first
  | rfl
  | trace_state
end Go.Proofs.YtgabjmmmiogfjaaDoor

namespace Go.Proofs.YtgabjmmmiogfjaaDoor
open Go.RowKit

/-- The numbers of a list, as values of one kind. -/
abbrev kv (k : IntKind) (l : List Int) : List Value := l.map (Value.int k)
/-- Block b is an array of these numbers. -/
def Row (w : World) (b : Nat) (t : TypeId) (k : IntKind) (l : List Int) : Prop := Blk w b (.cells (kv k l).toArray t)
theorem Row.cell {w : World} {b : Nat} {t : TypeId} {k : IntKind} {l : List Int} (h : Row w b t k l) {i : Nat} (hi : i < l.length) : w.cell? ⟨b, i, none⟩ = some (.int k (l.getD i 0)) := by
  rw [Blk.cell h i]
  simp [List.getElem?_eq_getElem hi, List.getD_eq_getElem?_getD]
theorem Row.frozen {w : World} {b : Nat} {t : TypeId} {k : IntKind} {l : List Int} (h : Row w b t k l) (i : Nat) : w.frozen? ⟨b, i, none⟩ = false := Blk.frozen h i
theorem Row.lt {w : World} {b : Nat} {t : TypeId} {k : IntKind} {l : List Int} (h : Row w b t k l) : b < w.heap.size := Blk.lt h
theorem Row.set {w : World} {b : Nat} {t : TypeId} {k : IntKind} {l : List Int} (h : Row w b t k l) (i : Nat) (x : Int) : Row (w.setCell ⟨b, i, none⟩ (.int k x)) b t k (l.set i x) := by
  have := Blk.set h i (.int k x)
  unfold Row
  have e : ((kv k l).toArray.setIfInBounds i (.int k x)) = (kv k (l.set i x)).toArray := by
    simp [List.map_set]
  rw [← e]
  exact this
theorem Row.keep {w w' : World} {b : Nat} {t : TypeId} {k : IntKind} {l : List Int} (h : Row w b t k l) (hb : Below w.heap.size w w') : Row w' b t k l := Blk.keep h hb
theorem Row.upto {w w' : World} {b B : Nat} {t : TypeId} {k : IntKind} {l : List Int} (h : Row w b t k l) (hb : Below B w w') (hB : b < B) : Row w' b t k l := Blk.upto h hb hB
theorem Row.alloc {w : World} {b : Nat} {t : TypeId} {k : IntKind} {l : List Int} (h : Row w b t k l) (o : Obj) : Row (w.alloc o) b t k l := Blk.old h o
theorem Row.other {w : World} {b : Nat} {t : TypeId} {k : IntKind} {l : List Int} (h : Row w b t k l) {p : Addr} (hp : p.block ≠ b) (v : Value) : Row (w.setCell p v) b t k l := Blk.setOther h hp v
theorem Row.as {w : World} {b : Nat} {t : TypeId} {k : IntKind} {l m : List Int} (h : Row w b t k l) (e : l = m) : Row w b t k m := e ▸ h
theorem Row.drew {w : World} {b : Nat} {t : TypeId} {k : IntKind} {l : List Int} (h : Row w b t k l) : Row w.drew b t k l := h
theorem Row.drewN {w : World} {b : Nat} {t : TypeId} {k : IntKind} {l : List Int} (h : Row w b t k l) (n : Nat) : Row (w.drewN n) b t k l := h
theorem kv_all (k : IntKind) (l : List Int) : (kv k l).toArray.all (·.oneCell') = true := Array.all_eq_true_iff_forall_mem.2 fun v hv => by
  obtain ⟨x, _, rfl⟩ := List.mem_map.1 (show v ∈ kv k l by simpa using hv)
  rfl
theorem kv_size (k : IntKind) (l : List Int) : (kv k l).toArray.size = l.length := by simp
theorem Row.setRow {w : World} {b : Nat} {t : TypeId} {k : IntKind} {l : List Int} (h : Row w b t k l) (m : List Int) : Row (w.setRow b (kv k m).toArray) b t k m := Blk.setRow h _
theorem Row.otherRow {w : World} {b g : Nat} {t : TypeId} {k : IntKind} {l : List Int} (h : Row w b t k l) (hne : b ≠ g) (cs : Array Value) : Row (w.setRow g cs) b t k l := (setRow_other w g b cs hne).trans h
theorem below_drewN {B : Nat} {w w' : World} (h : Below B w w') (n : Nat) : Below B w (w'.drewN n) := ⟨h.os, h.tape, h.output, h.size, h.block⟩
/-- A fact that is kept out of every tactic's sight. -/
structure Kp (p : Prop) : Prop where
  out : p
theorem wp_world {P : Program} {c : Code} {Q : Exit → Act → World → Prop} {a : Act} {w : World} (F : World → Prop) (hF : F w) (h : ∀ w2, F w2 → Code.wp P c Q a w2) : Code.wp P c Q a w := h w hF
theorem wpl_world {P : Program} {ops : Array Oper} {l : List Oper} {Q : Exit → Act → World → Prop} {a : Act} {w : World} (F : World → Prop) (hF : F w) (h : ∀ w2, F w2 → wpList P ops Q l a w2) : wpList P ops Q l a w := h w hF
/-- l, and zeros behind it, n in all. -/
def fill (n : Nat) (l : List Int) : List Int := l ++ List.replicate (n - l.length) 0
theorem fill_len {n : Nat} {l : List Int} (h : l.length ≤ n) : (fill n l).length = n := by simp [fill]; omega
theorem fill_get {n i : Nat} {l : List Int} (h : i < l.length) : (fill n l).getD i 0 = l.getD i 0 := by
  simp [fill, List.getD_eq_getElem?_getD, List.getElem?_append_left h]
theorem fill_set {n : Nat} {l : List Int} (h : l.length < n) (x : Int) : (fill n l).set l.length x = fill n (l ++ [x]) := by
  unfold fill
  obtain ⟨m, hm⟩ : ∃ m, n - l.length = m + 1 := ⟨n - l.length - 1, by omega⟩
  rw [hm, List.set_append_right _ _ (Nat.le_refl _), Nat.sub_self, List.replicate_succ, List.set_cons_zero, List.append_assoc]
  have : n - (l ++ [x]).length = m := by simp; omega
  rw [this]
  rfl
theorem fill_full {n : Nat} {l : List Int} (h : l.length = n) : fill n l = l := by simp [fill, h]
theorem list_eq_getD {l m : List Int} (h : l.length = m.length) (he : ∀ i, i < l.length → l.getD i 0 = m.getD i 0) : l = m := by
  apply List.ext_getElem h
  intro i h1 h2
  have := he i h1
  simpa [List.getD_eq_getElem?_getD, List.getElem?_eq_getElem h1, List.getElem?_eq_getElem h2] using this

set_option maxRecDepth 100000 in
/-- v[i:j]. -/
theorem HoldsB.mid {w : World} {M : Nat} {v : Value} {l : List Int} (h : HoldsB w M v l) {i j : Nat} (hi : i ≤ j) (hj : j ≤ l.length) :
    ∃ v', (∀ w1, (Instr.sliceAt 24 v (some (.int .i64 i)) (some (.int .i64 j)) none).run Tryd.prog w1 = .ok v' w1) ∧ HoldsB w M v' ((l.drop i).take (j - i)) := by
  obtain ⟨a, cap, rfl, h2, h3, h4, h5, h6, h7⟩ := h
  refine ⟨sliced a i j cap 1, fun w1 => ?_, ?_⟩
  · rw [run_sliceAt_slice (h := Tryd.underlying24), run_slice_lh (ht := Tryd.underlying24) (h0 := by omega) (h1 := by omega) (h2 := by omega), elem22, size5]
    simp [Result.andThen]
  · have hlen : ((l.drop i).take (j - i)).length = j - i := by simp; omega
    by_cases hc : cap = i
    · refine ⟨a, cap - i, ?_, by rw [hlen]; omega, by omega, fun e => by have := h4 e; omega, fun x hx h0 => ?_, fun x k hx hk => ?_, (h7.drop i).take _⟩
      · unfold sliced
        rw [if_pos hc, hlen]
      · rw [hlen] at h0; omega
      · rw [hlen] at hk; omega
    · refine ⟨a.map (·.add (i * 1)), cap - i, ?_, by rw [hlen]; omega, by omega, fun e => ?_, fun x hx h0 => ?_, fun x k hx hk => ?_, (h7.drop i).take _⟩
      · unfold sliced
        rw [if_neg hc, hlen]
      · cases a with
        | none => have := h4 rfl; omega
        | some y => simp at e
      · cases a with
        | none => simp at hx
        | some y =>
          simp only [Option.map_some, Option.some.injEq] at hx
          subst hx
          have := h5 y rfl (by rw [hlen] at h0; omega)
          unfold Addr.add
          split <;> simp_all
      · cases a with
        | none => simp at hx
        | some y =>
          simp only [Option.map_some, Option.some.injEq] at hx
          subst hx
          rw [hlen] at hk
          rw [take_getD (by omega), drop_getD]
          have := h6 y (i + k) rfl (by omega)
          have e1 : (y.add (i * 1)).block = y.block := by unfold Addr.add; split <;> rfl
          have e2 : (y.add (i * 1)).off = y.off + i := by unfold Addr.add; split <;> simp_all
          rw [e1, e2, Nat.add_assoc]
          exact this
/-- The cells of a row of bytes that is not empty. -/
theorem HoldsB.open {w : World} {M : Nat} {v : Value} {l : List Int} (h : HoldsB w M v l) (h0 : 0 < l.length) :
    ∃ b off cap, v = .slice (some ⟨b, off, none⟩) l.length cap ∧ l.length ≤ cap ∧ cap ≤ maxLen ∧ b < M ∧ b < w.heap.size ∧ ∀ i, i < l.length → w.cell? ⟨b, off + i, none⟩ = some (.int .u8 (l.getD i 0)) := by
  obtain ⟨a, cap, rfl, h2, h3, h4, h5, h6, h7⟩ := h
  cases a with
  | none => have := h4 rfl; omega
  | some x =>
    obtain ⟨hs, hM, hw⟩ := h5 x rfl h0
    obtain ⟨b, off, spot⟩ := x
    simp only at hs hM hw
    subst hs
    exact ⟨b, off, cap, rfl, h2, h3, hM, hw, fun i hi => h6 _ i rfl hi⟩
/-- Bytes that stand in an array of bytes, from a place on. -/
theorem HoldsB.ofRow2 {w : World} {b off n cap : Nat} {t : TypeId} {cs : Array Value} {fr : Nat × Nat} {l : List Int} (h : Blk w b (.cells cs t fr)) (hn : n = l.length) (hc : n ≤ cap) (hm : cap ≤ maxLen)
    (hcs : ∀ i, i < l.length → cs[off + i]? = some (.int .u8 (l.getD i 0))) (hb : Bytes l) : HoldsB w w.heap.size (.slice (some ⟨b, off, none⟩) n cap) l := by
  subst hn
  refine ⟨_, cap, rfl, hc, hm, (fun e => by cases e), (fun x hx _ => by cases hx; exact ⟨rfl, h.lt, h.lt⟩), (fun x i hx hi => ?_), hb⟩
  cases hx
  rw [h.cell]
  exact hcs i hi
end Go.Proofs.YtgabjmmmiogfjaaDoor

namespace Go.Proofs.YtgabjmmmiogfjaaDoor
open Go.RowKit

theorem exec_load_mid {P : Program} {o : Oper} {a : Act} {w : World} {ty : TypeId} {x : Operand} {b off : Nat} {cs : List Value} {d : TypeDesc} (ho : o.op = .load ty x) (hx : a.eval x = .pointer (some ⟨b, off, none⟩)) (hc : w.rangeAt b off cs)
    (hu : P.underlying ty = some d) (hd : d.isRow = true) (hi : (P.info? ty).map (·.size) = some cs.length) : (execOp a.eval o).run P w = .ok (.value (.agg cs.toArray)) w := by
  unfold execOp
  simp only [ho, hx, Instr.loadAt, Instr.sureAddr, Sem.run_bind, Sem.run_pure, Result.andThen_ok, run_loadVar_mid w b off ty cs d hc hu hd hi]

theorem Row.setCells {b : Nat} {t : TypeId} {k : IntKind} : ∀ (z : List Int) (o : Nat) (w : World) (l : List Int), o + z.length ≤ l.length → Row w b t k l → Row (w.setCells b o (kv k z)) b t k (splice l o z)
  | [], o, w, l, _, h => by
    have e : splice l o [] = l := by simp [splice]
    rw [e]
    exact h
  | x :: r, o, w, l, hl, h => by
    have h1 := Row.setCells (b := b) (t := t) (k := k) r (o + 1) _ (l.set o x) (by simp at hl ⊢; omega) (h.set o x)
    have e : splice (l.set o x) (o + 1) r = splice l o (x :: r) := by
      simp at hl
      unfold splice
      have e1 : (l.set o x).take (o + 1) = l.take o ++ [x] := by
        rw [List.take_add_one, List.take_set_of_le (Nat.le_refl o)]
        simp [List.getElem?_set_self (show o < l.length by omega)]
      have e2 : (l.set o x).drop (o + 1 + r.length) = l.drop (o + 1 + r.length) := List.drop_set_of_lt (by omega)
      rw [e1, e2, List.append_assoc, List.singleton_append, List.cons_append, List.length_cons, show o + 1 + r.length = o + (r.length + 1) by omega]
    rw [e] at h1
    exact h1
theorem Below.cells {B b : Nat} (hB : B ≤ b) : ∀ (vs : List Value) (o : Nat) (a w : World), Below B a w → Below B a (w.setCells b o vs)
  | [], _, _, _, h => h
  | v :: r, o, _, w, h => Below.cells hB r (o + 1) _ _ (h.setCell (p := ⟨b, o, none⟩) hB v)
theorem Row.there {w : World} {b : Nat} {t : TypeId} {k : IntKind} {l : List Int} (h : Row w b t k l) {o n : Nat} (hl : o + n ≤ l.length) : w.there b o n := fun j hj =>
  ⟨by rw [h.cell (i := o + j) (by omega)]; rfl, h.frozen (o + j)⟩
theorem Row.otherCells {b g : Nat} {t : TypeId} {k : IntKind} {l : List Int} (hne : g ≠ b) : ∀ (vs : List Value) (o : Nat) (w : World), Row w b t k l → Row (w.setCells g o vs) b t k l
  | [], _, _, h => h
  | v :: r, o, _, h => Row.otherCells hne r (o + 1) _ (h.other (p := ⟨g, o, none⟩) hne v)
theorem Blk.otherCells {b g : Nat} {x : Obj} (hne : g ≠ b) : ∀ (vs : List Value) (o : Nat) (w : World), Blk w b x → Blk (w.setCells g o vs) b x
  | [], _, _, h => h
  | v :: r, o, _, h => Blk.otherCells hne r (o + 1) _ (h.setOther (p := ⟨g, o, none⟩) hne v)
/-- The middle of a row. -/
theorem Row.mid {w : World} {b : Nat} {t : TypeId} {k : IntKind} {l : List Int} (h : Row w b t k l) {o n : Nat} (hl : o + n ≤ l.length) : w.rangeAt b o (kv k ((l.drop o).take n)) := by
  intro j v hv
  have hj : j < n := by
    have h1 := (List.getElem?_eq_some_iff.1 hv).1
    simp at h1
    omega
  rw [h.cell (i := o + j) (by omega)]
  rw [List.getElem?_map, List.getElem?_take, if_pos hj, List.getElem?_drop, List.getElem?_eq_getElem (by omega)] at hv
  simp at hv
  rw [List.getD_eq_getElem?_getD, List.getElem?_eq_getElem (by omega)]
  simpa using hv
end Go.Proofs.YtgabjmmmiogfjaaDoor

namespace Go.Proofs.YtgabjmmmiogfjaaDoor
open Go.RowKit

theorem HoldsB.grow {w w' : World} {v : Value} {l : List Int} (h : HoldsB w w.heap.size v l) (hb : Below w.heap.size w w') : HoldsB w' w'.heap.size v l := (h.keep hb).mono hb.size

set_option maxRecDepth 100000 in
set_option maxHeartbeats 800000 in
theorem clone_any (M : Nat) (v : Value) (l : List Int) (w : World) (h : HoldsB w M v l) (hr : l.length ≤ 140737488351232) :
    Calls Tryd.prog 90 #[v] w fun r w' => ∃ v', r = .returned v' ∧ w'.ownsRow w.heap.size 5 1 v' l.length (bv l) ∧ Below w.heap.size w w' := by
  obtain ⟨i0, hi, hz0, hz1, hz2⟩ := info_parts info5
  have q23 : ∀ (w : World) (a : Option Addr) (n c n' c' : Nat), (binOp .eql 24 (.slice a n c) (.slice none n' c')).run Tryd.prog w = .ok (.bool a.isNone) w := fun w a n c n' c' => Lib.run_eql_slice_nil w _ _ a n c n' c' Tryd.underlying24
  obtain ⟨a, n, cap, rfl, hn⟩ := h.slice
  cases a with
  | none =>
    have hl : l = [] := by
      obtain ⟨a', cap', h1, h2, h3, h4, h5, h6, h7⟩ := h
      simp only [Value.slice.injEq] at h1
      have := h4 h1.1.symm
      exact List.length_eq_zero_iff.1 (by omega)
    have hc : cap = 0 := by
      obtain ⟨a', cap', h1, h2, h3, h4, h5, h6, h7⟩ := h
      simp only [Value.slice.injEq] at h1
      have := h4 h1.1.symm
      omega
    subst hl hc
    have hn0 : n = 0 := by simpa using hn
    subst hn0
    clear h hn
    go_enter Tryd.func90, Tryd.ntmps90
    go_wp2_with fail
    go_ret
    exact ⟨_, rfl, World.ownsRow_nil _ _ _ _, Below.refl _ _⟩
  | some ad =>
    have HH := Lib.hid h
    have HN := Lib.hid hn
    have hn2 : n ≤ 140737488351232 := by omega
    clear h hn hr
    go_enter Tryd.func90, Tryd.ntmps90
    go_wp2_with (at_builtin; refine wpList_append_own _ rfl _ _ 24 rfl w.heap.size 5 i0 (.int .u8 0) 1 1 Tryd.underlying24 hi hz0 hz1 hz2 rfl (by decide) _ _ _ rfl (World.ownsRow_made w #[] 0 (Nat.le_refl _) (by decide) rfl) ad n cap (bv l) rfl ?c0 ?c1 ?c2 ?c3 ?c4 ?c5 ?_)
    case c0 => rw [bv_len, HN.out]
    case c1 => exact (HH.out.alloc _).news
    case c2 => exact bv_one _
    case c3 => unfold maxLen; omega
    case c4 => omega
    case c5 => simp
    · intro v' w2 hown' hgrow _
      have HO2 := Lib.hid hown'
      have HG2 := Lib.hid hgrow
      clear hown' hgrow
      go_wp2_with fail
      go_ret
      refine ⟨_, rfl, ?_, (more (Below.refl _ _) _).grown HG2.out (by simp) (fun k hk => ?_)⟩
      · have h1 := HO2.out
        have h2 := HN.out
        subst h2
        exact h1
      · simp [Value.ownBlock] at hk
        omega
/-- append of bytes that stand somewhere, to a row of the call's own. -/
theorem row_shape {w : World} {base n : Nat} {v : Value} {xs : List Value} (h : w.ownsRow base 5 1 v n xs) : ∃ a m c, v = .slice a m c := by
  rcases h.2 with ⟨rfl, _⟩ | ⟨g, cap, cur, rfl, _⟩ <;> exact ⟨_, _, _, rfl⟩
theorem row_mono {w : World} {base base' n : Nat} {v : Value} {xs : List Value} (h : w.ownsRow base 5 1 v n xs) (hb : base' ≤ base) : w.ownsRow base' 5 1 v n xs := by
  obtain ⟨h1, h2⟩ := h
  refine ⟨h1, ?_⟩
  rcases h2 with h2 | ⟨g, cap, cur, e, hg, r⟩
  · exact .inl h2
  · exact .inr ⟨g, cap, cur, e, Nat.le_trans hb hg, r⟩
end Go.Proofs.YtgabjmmmiogfjaaDoor

namespace Go.Proofs.YtgabjmmmiogfjaaDoor
open Go.RowKit

theorem clone_anyF (M : Nat) (v : Value) (l : List Int) (w : World) (h : HoldsB w M v l) (hr : l.length ≤ 140737488351232) :
    Calls Tryd.prog 90 #[v] w fun r w' => ∃ v', r = .returned v' ∧ w'.ownsRow w.heap.size 5 1 v' l.length (bv l) ∧ Below w.heap.size w w' := clone_any M v l w h hr
end Go.Proofs.YtgabjmmmiogfjaaDoor

namespace Go.Proofs.YtgabjmmmiogfjaaDoor
open Go.RowKit

abbrev outObj (v : Value) (f : Bool) : Obj := .cells #[v, .bool f] 147
/-- In block O stands an Out that has laid the bytes l. -/
structure OutIs (w : World) (O : Nat) (v : Value) (l : List Int) (f : Bool) : Prop where
  blk : Blk w O (outObj v f)
  row : w.ownsRow (O + 1) 5 1 v l.length (bv l)
  bytes : Bytes l
/-- What a call on Out makes of it; all else is as it was. -/
structure OutStep (O : Nat) (v v' : Value) (l : List Int) (f : Bool) (w w' : World) : Prop where
  is : OutIs w' O v' l f
  os : w'.os = w.os
  tape : w'.tape = w.tape
  output : w'.output = w.output
  size : w.heap.size ≤ w'.heap.size
  other : ∀ k, k < w.heap.size → k ≠ O → v.ownBlock ≠ some k → w'.heap[k]? = w.heap[k]?
  own : ∀ k, v'.ownBlock = some k → v.ownBlock = some k ∨ w.heap.size ≤ k
theorem OutIs.keep {w w' : World} {O : Nat} {v : Value} {l : List Int} {f : Bool} (h : OutIs w O v l f) (hb : Below w.heap.size w w') : OutIs w' O v l f :=
  ⟨h.blk.keep hb, ownsRow_below h.row hb, h.bytes⟩
theorem OutIs.shape {w : World} {O : Nat} {v : Value} {l : List Int} {f : Bool} (h : OutIs w O v l f) : ∃ a n cap, v = .slice a n cap := by
  rcases h.row.2 with ⟨rfl, _⟩ | ⟨g, cap, cur, rfl, _⟩ <;> exact ⟨_, _, _, rfl⟩
theorem OutIs.holds {w : World} {O : Nat} {v : Value} {l : List Int} {f : Bool} (h : OutIs w O v l f) : HoldsB w w.heap.size v l := HoldsB.ofRow h.bytes h.row
theorem OutStep.below {w w' : World} {O : Nat} {v : Value} {l : List Int} {f : Bool} (h : OutIs w O v l f) (hb : Below w.heap.size w w') : OutStep O v v l f w w' :=
  ⟨h.keep hb, hb.os, hb.tape, hb.output, hb.size, fun k hk _ _ => hb.block k hk, fun k hk => .inl hk⟩
theorem OutStep.trans {w w1 w2 : World} {O : Nat} {v v1 v2 : Value} {l l2 : List Int} {f f2 : Bool} (h : OutStep O v v1 l f w w1) (k : OutStep O v1 v2 l2 f2 w1 w2) : OutStep O v v2 l2 f2 w w2 :=
  ⟨k.is, k.os.trans h.os, k.tape.trans h.tape, k.output.trans h.output, Nat.le_trans h.size k.size,
    fun i hi hO hv => (k.other i (Nat.lt_of_lt_of_le hi h.size) hO (fun e => by rcases h.own i e with h | h; exact hv h; omega)).trans (h.other i hi hO hv),
    fun i hi => by
      rcases k.own i hi with h1 | h1
      · exact h.own i h1
      · exact .inr (Nat.le_trans h.size h1)⟩
theorem OutStep.more {w w1 w2 : World} {O : Nat} {v v1 : Value} {l : List Int} {f : Bool} (h : OutStep O v v1 l f w w1) (hb : Below w1.heap.size w1 w2) : OutStep O v v1 l f w w2 := h.trans (OutStep.below h.is hb)
theorem OutStep.ahead {w w1 w2 : World} {O : Nat} {v v1 : Value} {l l0 : List Int} {f f0 : Bool} (h0 : OutIs w O v l0 f0) (hb : Below w.heap.size w w1) (h : OutStep O v v1 l f w1 w2) : OutStep O v v1 l f w w2 := (OutStep.below h0 hb).trans h
/-- A block that is neither the Out's nor its row's. -/
theorem OutStep.keep {w w1 : World} {O b : Nat} {v v1 : Value} {l : List Int} {f : Bool} {o : Obj} (h : OutStep O v v1 l f w w1) (hb : Blk w b o) (hO : b ≠ O) (hv : v.ownBlock ≠ some b) : Blk w1 b o := (h.other b hb.lt hO hv).trans hb

/-- append to a row of the call's own, and in which block what comes of it lies. -/
theorem wpList_append_own2F {P : Program} {w : World} {ops : Array Oper} {rest : List Oper} {o : Oper} {a : Act} {Q : Exit → Act → World → Prop} (hgd : o.guard = none) (s x : Operand) (t : TypeId)
    (ho : o.op = .call { callee := .builtin .append, args := #[s, x], argTypes := #[t, t] })
    (base : Nat) (e : TypeId) (i : TypeInfo) (z : Value) (size bytes : Nat) (ht : P.underlying t = some (.slice e)) (hi : P.info? e = some i) (hz : i.zero = some z)
    (hsize : i.size = size) (hby : i.bytes = bytes) (hzs : z.cells.size = size) (hsz : 0 < size)
    (v : Value) (n : Nat) (xs : List Value) (hs : a.eval s = v) (hown : w.ownsRow base e size v n xs)
    (ad : Addr) (m c : Nat) (news : List Value) (hx : a.eval x = .slice (some ad) m c) (hl : news.length = m * size) (hnews : ∀ j u, news[j]? = some u → w.cell? (ad.add j) = some u) (h1 : ∀ u ∈ news, u.oneCell' = true)
    (h63 : n + m ≤ maxLen) (hbytes : (n + m) * bytes ≤ 140737488355328) (hbase : base ≤ w.heap.size)
    (h : ∀ v' w', w'.ownsRow base e size v' (n + m) (xs ++ news) → w.grownBy w' v.ownBlock → (∀ k, v'.ownBlock = some k → v.ownBlock = some k ∨ w.heap.size ≤ k) → wpList P ops Q rest (a.put o.dst v') w') : wpList P ops Q (o :: rest) a w := by
  have hv := hown.2
  rcases hv with ⟨hv, h0⟩ | ⟨g, cap, cur, hv, hg, hh, hn, hc, hsz2, htk⟩
  · subst h0
    have hxs : xs = [] := List.eq_nil_of_length_eq_zero (by simpa using hown.1)
    subst hxs
    refine wpList_plain hgd fun K hK => ?_
    rw [hv] at hs
    obtain ⟨v', w', hrun, r1, r2, _⟩ := run_append_own (P := P) w w.heap.size t o.type e i z size bytes ht hi hz hsize hby hzs hsz (.slice none 0 0) 0 [] (World.ownsRow_nil w _ e size) ad m c news hl hnews h1 h63 hbytes (Nat.le_refl _)
    unfold Oper.wp
    simp [execOp, ho, resolve, invoke, builtin, hs, hx, hrun, Result.andThen]
    refine hK _ _ (h v' w' (ownsRow_base r1 hbase) (by rw [hv]; exact r2) fun k hk => .inr (r1.lt k hk).1)
  · subst hv
    by_cases hroom : n + m ≤ cap
    · refine wpList_append_fits w hgd s x t ho base e i size ht hi hsize g n cap xs hs hown ad m c news hx hl hnews h1 hroom fun w' h2 h3 => ?_
      exact h _ w' h2 h3 fun k hk => .inl hk
    · refine wpList_append_grows w hgd s x t ho e i z size bytes ht hi hz hsize hby hzs hsz (some ⟨g, 0, none⟩) n cap xs hs (fun e => by cases e) hown.1 (fun b hb => by cases hb; exact hown.cells rfl) ad m c news hx hl hnews h1 (by omega) h63 hbytes fun v' w' h2 h3 => ?_
      exact h v' w' (ownsRow_base h2 hbase) ⟨h3.os, h3.tape, h3.output, h3.size, fun k hk _ => h3.block k hk (by simp)⟩ fun k hk => .inr (h2.lt k hk).1

def putL (l p : List Int) (f : Bool) : List Int := if f then l else l ++ p

set_option maxRecDepth 100000 in
set_option maxHeartbeats 1600000 in
theorem put_any (O M : Nat) (v s : Value) (l p : List Int) (f : Bool) (w : World) (h : OutIs w O v l f) (hs : HoldsB w M s p) (hlen : l.length + p.length ≤ 1099511627776) :
    Calls Tryd.prog 100 #[.pointer (some ⟨O, 0, none⟩), s] w fun r w' => r = .returned (.tuple #[]) ∧ ∃ v', OutStep O v v' (putL l p f) f w w' := by
  have H := Lib.hid h
  have HS := Lib.hid hs
  obtain ⟨c0, c1, f0, f1⟩ := h.blk.two
  have lO := h.blk.lt
  obtain ⟨i0, hi, hz0, hz1, hz2⟩ := info_parts info5
  obtain ⟨a, n, cap, rfl, hn⟩ := hs.slice
  have HN := Lib.hid hn
  have hln : l.length + n ≤ 1099511627776 := by omega
  clear h hs hn hlen
  cases f with
  | true =>
    have HP : Hid (OutStep O v v (putL l p true) true w w) := OutStep.below H.out (Below.refl _ _)
    go_enter Tryd.func100, Tryd.ntmps100
    go_wp2_with fail
    go_end0
    exact ⟨rfl, _, HP.out⟩
  | false =>
    cases a with
    | none =>
      have hp0 : Hid (p = []) := by
        obtain ⟨a', cap', h1, h2, h3, h4, h5, h6, h7⟩ := HS.out
        simp only [Value.slice.injEq] at h1
        have := h4 h1.1.symm
        exact List.length_eq_zero_iff.1 (by omega)
      have hc0 : n = 0 ∧ cap = 0 := by
        obtain ⟨a', cap', h1, h2, h3, h4, h5, h6, h7⟩ := HS.out
        simp only [Value.slice.injEq] at h1
        have := h4 h1.1.symm
        omega
      obtain ⟨rfl, rfl⟩ := hc0
      obtain ⟨av, nv, cv, rfl⟩ := H.out.shape
      have hT : Turn O (outObj (.slice av nv cv) false) w (w.setCell ⟨O, 0, none⟩ (.slice av nv cv)) := ((Turn.same H.out.blk).set 0 _).as rfl
      have HT := Lib.hid hT
      clear hT
      go_enter Tryd.func100, Tryd.ntmps100
      go_wp2_with (at_builtin; refine wpList_append_own_none rfl _ _ 24 rfl (O + 1) 5 i0 1 Tryd.underlying24 hi _ _ _ rfl H.out.row rfl ?_)
      go_end0
      have hT := HT.out
      refine ⟨rfl, _, ⟨hT.blk, ?_, ?_⟩, hT.os, hT.tape, hT.output, hT.size, fun k hk hO _ => hT.other k hk hO, fun k hk => .inl hk⟩
      · have := ownsRow_turn H.out.row hT (Nat.lt_succ_self O)
        unfold putL
        rw [hp0.out]
        simpa using this
      · unfold putL
        rw [hp0.out]
        simpa using H.out.bytes
    | some ad =>
      go_enter Tryd.func100, Tryd.ntmps100
      go_wp2_with (at_builtin; refine wpList_append_own2F rfl _ _ 24 rfl (O + 1) 5 i0 (.int .u8 0) 1 1 Tryd.underlying24 hi hz0 hz1 hz2 rfl (by decide) _ _ _ rfl H.out.row ad n cap (bv p) rfl ?c0 HS.out.news ?c2 ?c3 ?c4 ?c5 ?_)
      case c0 => rw [bv_len, HN.out]
      case c2 => exact bv_one _
      case c3 => unfold maxLen; omega
      case c4 => omega
      case c5 => omega
      · intro v' w2 hown' hgrow how
        have HOW := Lib.hid how
        have HO2 := Lib.hid hown'
        have HG2 := Lib.hid hgrow
        have hvO : v.ownBlock ≠ some O := fun e => by have := (H.out.row.lt O e).1; omega
        have hB2 : Blk w2 O (outObj v false) := (hgrow.block O lO (fun e => hvO e.symm)).trans H.out.blk
        obtain ⟨d0, d1, g0, g1⟩ := hB2.two
        have lO2 := hB2.lt
        have hsh : ∃ av nv cv, v' = .slice av nv cv := by
          rcases hown'.2 with ⟨rfl, _⟩ | ⟨g, cap, cur, rfl, _⟩ <;> exact ⟨_, _, _, rfl⟩
        obtain ⟨av, nv, cv, rfl⟩ := hsh
        have HB2 := Lib.hid hB2
        have HVO := Lib.hid hvO
        clear hown' hgrow how c0 c1 f0 f1 lO hB2 hvO
        go_wp2_with fail
        go_end0
        have hT : Turn O (outObj (.slice av nv cv) false) w2 (w2.setCell ⟨O, 0, none⟩ (.slice av nv cv)) := ((Turn.same HB2.out).set 0 _).as rfl
        have hrow : (w2.setCell ⟨O, 0, none⟩ (.slice av nv cv)).ownsRow (O + 1) 5 1 (.slice av nv cv) (l ++ p).length (bv (l ++ p)) := by
          have := ownsRow_turn HO2.out hT (Nat.lt_succ_self O)
          rw [List.length_append, ← HN.out]
          unfold bv
          rw [List.map_append]
          exact this
        refine ⟨rfl, .slice av nv cv, ⟨hT.blk, hrow, H.out.bytes.append HS.out.bytes⟩, hT.os.trans HG2.out.os, hT.tape.trans HG2.out.tape, hT.output.trans HG2.out.output, Nat.le_trans HG2.out.size hT.size,
          fun k hk hO hv => (hT.other k (Nat.lt_of_lt_of_le hk HG2.out.size) hO).trans (HG2.out.block k hk (fun e => hv e.symm)), HOW.out⟩
end Go.Proofs.YtgabjmmmiogfjaaDoor

namespace Go.Proofs.YtgabjmmmiogfjaaDoor
open Go.RowKit

set_option maxHeartbeats 800000 in
theorem giveUp_any (O : Nat) (v : Value) (l : List Int) (f : Bool) (w : World) (h : OutIs w O v l f) :
    Calls Tryd.prog 98 #[.pointer (some ⟨O, 0, none⟩)] w fun r w' => r = .returned (.tuple #[]) ∧ OutStep O v (.slice none 0 0) [] true w w' := by
  have H := Lib.hid h
  obtain ⟨c0, c1, f0, f1⟩ := h.blk.two
  have lO := h.blk.lt
  obtain ⟨a, n, cap, rfl⟩ := h.shape
  clear h
  go_enter Tryd.func98, Tryd.ntmps98
  go_wp2_with fail
  go_end0
  have hT : Turn O (outObj (.slice none 0 0) true) w ((w.setCell ⟨O, 0, none⟩ (.slice none 0 0)).setCell ⟨O, 1, none⟩ (.bool true)) := (((Turn.same H.out.blk).set 0 _).set 1 _).as rfl
  exact ⟨rfl, ⟨hT.blk, World.ownsRow_nil _ _ _ _, Bytes.nil⟩, hT.os, hT.tape, hT.output, hT.size, fun k hk hO _ => hT.other k hk hO, fun k hk => by simp [Value.ownBlock] at hk⟩

/-- A number's bytes, the highest first. -/
def digs (n : Int) (k : Nat) : List Int := (List.range k).map fun i => n / 256 ^ (k - 1 - i) % 256
theorem digs_len (n : Int) (k : Nat) : (digs n k).length = k := by simp [digs]
theorem digs_bytes (n : Int) (k : Nat) : Bytes (digs n k) := by
  intro x hx
  unfold digs at hx
  obtain ⟨i, _, rfl⟩ := List.mem_map.1 hx
  omega
theorem digs_take {n : Int} {k i : Nat} (h : i < k) : (digs n k).take (i + 1) = (digs n k).take i ++ [n / 256 ^ (k - 1 - i) % 256] := by
  have hl : i < (digs n k).length := by rw [digs_len]; exact h
  rw [List.take_succ_eq_append_getElem hl]
  simp [digs]
def numL (l : List Int) (f : Bool) (n : Int) (k : Nat) : List Int := if 256 ^ k ≤ n then [] else if f then l else l ++ digs n k
def numF (f : Bool) (n : Int) (k : Nat) : Bool := f || decide (256 ^ k ≤ n)
theorem wrap_u8 (a : Int) : IntKind.u8.wrap a = a % 256 := by simp [IntKind.wrap, IntKind.bits, IntKind.signed]
/-- One byte in a new block. -/
theorem HoldsB.one (w : World) (x : Int) (h0 : 0 ≤ x) (h1 : x ≤ 255) : HoldsB (w.alloc (.cells #[.int .u8 x] 5)) (w.heap.size + 1) (.slice (some ⟨w.heap.size, 0, none⟩) 1 1) [x] := by
  refine ⟨_, 1, rfl, Nat.le_refl _, by unfold maxLen; omega, (fun e => by cases e), (fun y hy _ => by cases hy; exact ⟨rfl, Nat.lt_succ_self _, by simp⟩), (fun y i hy hi => ?_), fun y hy => by simp at hy; omega⟩
  cases hy
  simp at hi
  subst hi
  exact (Blk.new w (.cells #[.int .u8 x] 5)).cell 0
def NumPost (O : Nat) (v : Value) (l : List Int) (f : Bool) (n : Int) (k : Nat) (w : World) (r : Ending) (w' : World) : Prop := r = .returned (.tuple #[]) ∧ ∃ v', OutStep O v v' (numL l f n k) (numF f n k) w w'
/-- Behind i bytes. -/
def partL (l : List Int) (f : Bool) (n : Int) (k i : Nat) : List Int := if f then l else l ++ (digs n k).take i
theorem partL_step {l : List Int} {f : Bool} {n : Int} {k i : Nat} (h : i < k) {x : Int} (hx : x = n / 256 ^ (k - 1 - i) % 256) : putL (partL l f n k i) [x] f = partL l f n k (i + 1) := by
  unfold putL partL
  cases f
  · simp only [Bool.false_eq_true, if_false]
    rw [digs_take h, hx, List.append_assoc]
  · rfl
theorem partL_len (l : List Int) (f : Bool) (n : Int) (k i : Nat) : (partL l f n k i).length ≤ l.length + k := by
  unfold partL
  split
  · omega
  · rw [List.length_append, List.length_take, digs_len]; omega
theorem partL_all (l : List Int) (f : Bool) (n : Int) (k : Nat) (h : ¬ 256 ^ k ≤ n) : partL l f n k k = numL l f n k := by
  unfold partL numL
  rw [if_neg h, List.take_of_length_le (by rw [digs_len]; omega)]
theorem partL_none (l : List Int) (f : Bool) (n : Int) (k : Nat) : partL l f n k 0 = l := by
  unfold partL
  split <;> simp

set_option maxHeartbeats 3200000 in
theorem number_2 (O : Nat) (v : Value) (l : List Int) (f : Bool) (n : Int) (w : World) (h : OutIs w O v l f) (hn0 : 0 ≤ n) (hn1 : n < 18446744073709551616) (hlen : l.length ≤ 1000000000000) :
    Calls Tryd.prog 86 #[.pointer (some ⟨O, 0, none⟩), .int .u64 n, .int .i64 2] w (NumPost O v l f n 2 w) := by
  have H := Lib.hid h
  clear h
  by_cases hbig : 65536 ≤ n
  · have hl : Hid (numL l f n 2 = [] ∧ numF f n 2 = true) := by
      unfold Hid numL numF
      rw [if_pos (by simpa using hbig)]
      exact ⟨rfl, by simp; right; simpa using hbig⟩
    have t0 : (n / 65536 == 0) = false := by simp; omega
    have t0' : (n / 65536 != 0) = true := by simp; omega
    clear hbig
    go_enter Tryd.func86, Tryd.ntmps86
    go_wp2_with fail
    refine (giveUp_any O v l f _ H.out).mono ?_
    rintro r w1 ⟨rfl, h1⟩
    have H1 := Lib.hid h1
    clear h1
    go_wp2_with fail
    go_end0
    exact ⟨rfl, _, by rw [hl.out.1, hl.out.2]; exact H1.out⟩
  · have hl : Hid (partL l f n 2 2 = numL l f n 2 ∧ numF f n 2 = f) := by
      refine ⟨partL_all l f n 2 (by simpa using hbig), ?_⟩
      unfold numF
      rw [decide_eq_false (by simpa using hbig), Bool.or_false]
    have t0 : (n / 65536 == 0) = true := by simp; omega
    have t0' : (n / 65536 != 0) = false := by simp; omega
    go_enter Tryd.func86, Tryd.ntmps86
    go_wp2_with fail
    have HST := Lib.hid (OutStep.below H.out (Below.refl _ w))
    go_loopw [6] (fun c wr => ∃ i : Nat, ∃ vr, i ≤ 2 ∧ c = .int .i64 ((2 : Int) - 1 - i) ∧ OutStep O v vr (partL l f n 2 i) f w wr) (fun c _ => (intOf c + 1).toNat)
    case atStart => exact ⟨0, v, by omega, rfl, by rw [partL_none]; exact HST.out⟩
    case round =>
      obtain ⟨i, vr, hi, rfl, hst⟩ := hrel
      have HSR := Lib.hid hst
      clear hst
      have hcs : i = 0 ∨ i = 1 ∨ i = 2 := by omega
      rcases hcs with rfl | rfl | rfl
      · have hx : Hid (n / 256 = n / 256 ^ (2 - 1 - 0) % 256) := by unfold Hid; simp; omega
        have hx0 : 0 ≤ n / 256 ∧ n / 256 ≤ 255 := by omega
        have HX0 := Lib.hid hx0
        clear hx0
        go_wp2_with fail
        generalize hxe : n / 256 = x at hx HX0 ⊢
        refine (put_any O _ vr _ _ [x] f _ (HSR.out.is.keep (more (Below.refl _ _) _)) (HoldsB.one wr x HX0.out.1 HX0.out.2) (by have := partL_len l f n 2 0; simp; omega)).mono ?_
        rintro r w2 ⟨rfl, v2, h2⟩
        have H2 := Lib.hid h2
        clear h2
        go_wp2_with fail
        exact ⟨⟨1, v2, by omega, by go_num, by have := HSR.out.trans (OutStep.ahead HSR.out.is (more (Below.refl _ _) _) H2.out); rw [partL_step (by omega) hx.out] at this; exact this⟩, by simp [intOf]⟩
      · have hx : Hid (n % 256 = n / 256 ^ (2 - 1 - 1) % 256) := by unfold Hid; simp
        have hx0 : 0 ≤ n % 256 ∧ n % 256 ≤ 255 := by omega
        have HX0 := Lib.hid hx0
        clear hx0
        go_wp2_with fail
        generalize n % 256 = x at hx HX0 ⊢
        refine (put_any O _ vr _ _ [x] f _ (HSR.out.is.keep (more (Below.refl _ _) _)) (HoldsB.one wr x HX0.out.1 HX0.out.2) (by have := partL_len l f n 2 1; simp; omega)).mono ?_
        rintro r w2 ⟨rfl, v2, h2⟩
        have H2 := Lib.hid h2
        clear h2
        go_wp2_with fail
        exact ⟨⟨2, v2, by omega, by go_num, by have := HSR.out.trans (OutStep.ahead HSR.out.is (more (Below.refl _ _) _) H2.out); rw [partL_step (by omega) hx.out] at this; exact this⟩, by simp [intOf]⟩
      · go_wp2_with fail
        go_end0
        exact ⟨rfl, vr, by rw [← hl.out.1, hl.out.2]; exact HSR.out⟩
end Go.Proofs.YtgabjmmmiogfjaaDoor

namespace Go.Proofs.YtgabjmmmiogfjaaDoor
open Go.RowKit

set_option maxHeartbeats 6400000 in
theorem number_1 (O : Nat) (v : Value) (l : List Int) (f : Bool) (n : Int) (w : World) (h : OutIs w O v l f) (hn0 : 0 ≤ n) (hn1 : n < 18446744073709551616) (hlen : l.length ≤ 1000000000000) :
    Calls Tryd.prog 86 #[.pointer (some ⟨O, 0, none⟩), .int .u64 n, .int .i64 1] w (NumPost O v l f n 1 w) := by
  have H := Lib.hid h
  clear h
  by_cases hbig : 256 ≤ n
  · have hl : Hid (numL l f n 1 = [] ∧ numF f n 1 = true) := by
      unfold Hid numL numF
      rw [if_pos (by simpa using hbig)]
      exact ⟨rfl, by simp; right; simpa using hbig⟩
    have t0 : (n / 256 == 0) = false := by simp; omega
    have t0' : (n / 256 != 0) = true := by simp; omega
    clear hbig
    go_enter Tryd.func86, Tryd.ntmps86
    go_wp2_with fail
    refine (giveUp_any O v l f _ H.out).mono ?_
    rintro r w1 ⟨rfl, h1⟩
    have H1 := Lib.hid h1
    clear h1
    go_wp2_with fail
    go_end0
    exact ⟨rfl, _, by rw [hl.out.1, hl.out.2]; exact H1.out⟩
  · have hl : Hid (partL l f n 1 1 = numL l f n 1 ∧ numF f n 1 = f) := by
      refine ⟨partL_all l f n 1 (by simpa using hbig), ?_⟩
      unfold numF
      rw [decide_eq_false (by simpa using hbig), Bool.or_false]
    have t0 : (n / 256 == 0) = true := by simp; omega
    have t0' : (n / 256 != 0) = false := by simp; omega
    go_enter Tryd.func86, Tryd.ntmps86
    go_wp2_with fail
    have HST := Lib.hid (OutStep.below H.out (Below.refl _ w))
    go_loopw [6] (fun c wr => ∃ i : Nat, ∃ vr, i ≤ 1 ∧ c = .int .i64 ((1 : Int) - 1 - i) ∧ OutStep O v vr (partL l f n 1 i) f w wr) (fun c _ => (intOf c + 1).toNat)
    case atStart => exact ⟨0, v, by omega, rfl, by rw [partL_none]; exact HST.out⟩
    case round =>
      obtain ⟨i, vr, hi, rfl, hst⟩ := hrel
      have HSR := Lib.hid hst
      clear hst
      have hcs : i = 0 ∨ i = 1 := by omega
      rcases hcs with rfl | rfl
      · have hx : Hid (n = n / 256 ^ (1 - 1 - 0) % 256) := by unfold Hid; simp; omega
        have hx0 : 0 ≤ n ∧ n ≤ 255 := by omega
        have HX0 := Lib.hid hx0
        clear hx0
        go_wp2_with fail
        refine (put_any O _ vr _ _ [n] f _ (HSR.out.is.keep (more (Below.refl _ _) _)) (HoldsB.one wr n HX0.out.1 HX0.out.2) (by have := partL_len l f n 1 0; simp; omega)).mono ?_
        rintro r w2 ⟨rfl, v2, h2⟩
        have H2 := Lib.hid h2
        clear h2
        go_wp2_with fail
        exact ⟨⟨1, v2, by omega, by go_num, by have := HSR.out.trans (OutStep.ahead HSR.out.is (more (Below.refl _ _) _) H2.out); rw [partL_step (by omega) hx.out] at this; exact this⟩, by simp [intOf]⟩
      · go_wp2_with fail
        go_end0
        exact ⟨rfl, vr, by rw [← hl.out.1, hl.out.2]; exact HSR.out⟩

set_option maxHeartbeats 6400000 in
theorem number_4 (O : Nat) (v : Value) (l : List Int) (f : Bool) (n : Int) (w : World) (h : OutIs w O v l f) (hn0 : 0 ≤ n) (hn1 : n < 18446744073709551616) (hlen : l.length ≤ 1000000000000) :
    Calls Tryd.prog 86 #[.pointer (some ⟨O, 0, none⟩), .int .u64 n, .int .i64 4] w (NumPost O v l f n 4 w) := by
  have H := Lib.hid h
  clear h
  by_cases hbig : 4294967296 ≤ n
  · have hl : Hid (numL l f n 4 = [] ∧ numF f n 4 = true) := by
      unfold Hid numL numF
      rw [if_pos (by simpa using hbig)]
      exact ⟨rfl, by simp; right; simpa using hbig⟩
    have t0 : (n / 4294967296 == 0) = false := by simp; omega
    have t0' : (n / 4294967296 != 0) = true := by simp; omega
    clear hbig
    go_enter Tryd.func86, Tryd.ntmps86
    go_wp2_with fail
    refine (giveUp_any O v l f _ H.out).mono ?_
    rintro r w1 ⟨rfl, h1⟩
    have H1 := Lib.hid h1
    clear h1
    go_wp2_with fail
    go_end0
    exact ⟨rfl, _, by rw [hl.out.1, hl.out.2]; exact H1.out⟩
  · have hl : Hid (partL l f n 4 4 = numL l f n 4 ∧ numF f n 4 = f) := by
      refine ⟨partL_all l f n 4 (by simpa using hbig), ?_⟩
      unfold numF
      rw [decide_eq_false (by simpa using hbig), Bool.or_false]
    have t0 : (n / 4294967296 == 0) = true := by simp; omega
    have t0' : (n / 4294967296 != 0) = false := by simp; omega
    go_enter Tryd.func86, Tryd.ntmps86
    go_wp2_with fail
    have HST := Lib.hid (OutStep.below H.out (Below.refl _ w))
    go_loopw [6] (fun c wr => ∃ i : Nat, ∃ vr, i ≤ 4 ∧ c = .int .i64 ((4 : Int) - 1 - i) ∧ OutStep O v vr (partL l f n 4 i) f w wr) (fun c _ => (intOf c + 1).toNat)
    case atStart => exact ⟨0, v, by omega, rfl, by rw [partL_none]; exact HST.out⟩
    case round =>
      obtain ⟨i, vr, hi, rfl, hst⟩ := hrel
      have HSR := Lib.hid hst
      clear hst
      have hcs : i = 0 ∨ i = 1 ∨ i = 2 ∨ i = 3 ∨ i = 4 := by omega
      rcases hcs with rfl | rfl | rfl | rfl | rfl
      · have hx : Hid (n / 16777216 = n / 256 ^ (4 - 1 - 0) % 256) := by unfold Hid; simp; omega
        have hx0 : 0 ≤ n / 16777216 ∧ n / 16777216 ≤ 255 := by omega
        have HX0 := Lib.hid hx0
        clear hx0
        go_wp2_with fail
        generalize hxe : n / 16777216 = x at hx HX0 ⊢
        refine (put_any O _ vr _ _ [x] f _ (HSR.out.is.keep (more (Below.refl _ _) _)) (HoldsB.one wr x HX0.out.1 HX0.out.2) (by have := partL_len l f n 4 0; simp; omega)).mono ?_
        rintro r w2 ⟨rfl, v2, h2⟩
        have H2 := Lib.hid h2
        clear h2
        go_wp2_with fail
        exact ⟨⟨1, v2, by omega, by go_num, by have := HSR.out.trans (OutStep.ahead HSR.out.is (more (Below.refl _ _) _) H2.out); rw [partL_step (by omega) hx.out] at this; exact this⟩, by simp [intOf]⟩
      · have hx : Hid (n / 65536 % 256 = n / 256 ^ (4 - 1 - 1) % 256) := by unfold Hid; simp
        have hx0 : 0 ≤ n / 65536 % 256 ∧ n / 65536 % 256 ≤ 255 := by omega
        have HX0 := Lib.hid hx0
        clear hx0
        go_wp2_with fail
        generalize hxe : n / 65536 % 256 = x at hx HX0 ⊢
        refine (put_any O _ vr _ _ [x] f _ (HSR.out.is.keep (more (Below.refl _ _) _)) (HoldsB.one wr x HX0.out.1 HX0.out.2) (by have := partL_len l f n 4 1; simp; omega)).mono ?_
        rintro r w2 ⟨rfl, v2, h2⟩
        have H2 := Lib.hid h2
        clear h2
        go_wp2_with fail
        exact ⟨⟨2, v2, by omega, by go_num, by have := HSR.out.trans (OutStep.ahead HSR.out.is (more (Below.refl _ _) _) H2.out); rw [partL_step (by omega) hx.out] at this; exact this⟩, by simp [intOf]⟩
      · have hx : Hid (n / 256 % 256 = n / 256 ^ (4 - 1 - 2) % 256) := by unfold Hid; simp
        have hx0 : 0 ≤ n / 256 % 256 ∧ n / 256 % 256 ≤ 255 := by omega
        have HX0 := Lib.hid hx0
        clear hx0
        go_wp2_with fail
        generalize hxe : n / 256 % 256 = x at hx HX0 ⊢
        refine (put_any O _ vr _ _ [x] f _ (HSR.out.is.keep (more (Below.refl _ _) _)) (HoldsB.one wr x HX0.out.1 HX0.out.2) (by have := partL_len l f n 4 2; simp; omega)).mono ?_
        rintro r w2 ⟨rfl, v2, h2⟩
        have H2 := Lib.hid h2
        clear h2
        go_wp2_with fail
        exact ⟨⟨3, v2, by omega, by go_num, by have := HSR.out.trans (OutStep.ahead HSR.out.is (more (Below.refl _ _) _) H2.out); rw [partL_step (by omega) hx.out] at this; exact this⟩, by simp [intOf]⟩
      · have hx : Hid (n % 256 = n / 256 ^ (4 - 1 - 3) % 256) := by unfold Hid; simp
        have hx0 : 0 ≤ n % 256 ∧ n % 256 ≤ 255 := by omega
        have HX0 := Lib.hid hx0
        clear hx0
        go_wp2_with fail
        generalize hxe : n % 256 = x at hx HX0 ⊢
        refine (put_any O _ vr _ _ [x] f _ (HSR.out.is.keep (more (Below.refl _ _) _)) (HoldsB.one wr x HX0.out.1 HX0.out.2) (by have := partL_len l f n 4 3; simp; omega)).mono ?_
        rintro r w2 ⟨rfl, v2, h2⟩
        have H2 := Lib.hid h2
        clear h2
        go_wp2_with fail
        exact ⟨⟨4, v2, by omega, by go_num, by have := HSR.out.trans (OutStep.ahead HSR.out.is (more (Below.refl _ _) _) H2.out); rw [partL_step (by omega) hx.out] at this; exact this⟩, by simp [intOf]⟩
      · go_wp2_with fail
        go_end0
        exact ⟨rfl, vr, by rw [← hl.out.1, hl.out.2]; exact HSR.out⟩

set_option maxHeartbeats 6400000 in
theorem number_8 (O : Nat) (v : Value) (l : List Int) (f : Bool) (n : Int) (w : World) (h : OutIs w O v l f) (hn0 : 0 ≤ n) (hn1 : n < 18446744073709551616) (hlen : l.length ≤ 1000000000000) :
    Calls Tryd.prog 86 #[.pointer (some ⟨O, 0, none⟩), .int .u64 n, .int .i64 8] w (NumPost O v l f n 8 w) := by
  have H := Lib.hid h
  clear h
  have hbig : ¬ (18446744073709551616 : Int) ≤ n := by omega
  have hl : Hid (partL l f n 8 8 = numL l f n 8 ∧ numF f n 8 = f) := by
    refine ⟨partL_all l f n 8 (by simpa using hbig), ?_⟩
    unfold numF
    rw [decide_eq_false (by simpa using hbig), Bool.or_false]
  have t0 : (n / 18446744073709551616 == 0) = true := by simp; omega
  have t0' : (n / 18446744073709551616 != 0) = false := by simp; omega
  go_enter Tryd.func86, Tryd.ntmps86
  go_wp2_with fail
  have HST := Lib.hid (OutStep.below H.out (Below.refl _ w))
  go_loopw [6] (fun c wr => ∃ i : Nat, ∃ vr, i ≤ 8 ∧ c = .int .i64 ((8 : Int) - 1 - i) ∧ OutStep O v vr (partL l f n 8 i) f w wr) (fun c _ => (intOf c + 1).toNat)
  case atStart => exact ⟨0, v, by omega, rfl, by rw [partL_none]; exact HST.out⟩
  case round =>
    obtain ⟨i, vr, hi, rfl, hst⟩ := hrel
    have HSR := Lib.hid hst
    clear hst
    have hcs : i = 0 ∨ i = 1 ∨ i = 2 ∨ i = 3 ∨ i = 4 ∨ i = 5 ∨ i = 6 ∨ i = 7 ∨ i = 8 := by omega
    rcases hcs with rfl | rfl | rfl | rfl | rfl | rfl | rfl | rfl | rfl
    · have hx : Hid (n / 72057594037927936 = n / 256 ^ (8 - 1 - 0) % 256) := by unfold Hid; simp; omega
      have hx0 : 0 ≤ n / 72057594037927936 ∧ n / 72057594037927936 ≤ 255 := by omega
      have HX0 := Lib.hid hx0
      clear hx0
      go_wp2_with fail
      generalize hxe : n / 72057594037927936 = x at hx HX0 ⊢
      refine (put_any O _ vr _ _ [x] f _ (HSR.out.is.keep (more (Below.refl _ _) _)) (HoldsB.one wr x HX0.out.1 HX0.out.2) (by have := partL_len l f n 8 0; simp; omega)).mono ?_
      rintro r w2 ⟨rfl, v2, h2⟩
      have H2 := Lib.hid h2
      clear h2
      go_wp2_with fail
      exact ⟨⟨1, v2, by omega, by go_num, by have := HSR.out.trans (OutStep.ahead HSR.out.is (more (Below.refl _ _) _) H2.out); rw [partL_step (by omega) hx.out] at this; exact this⟩, by simp [intOf]⟩
    · have hx : Hid (n / 281474976710656 % 256 = n / 256 ^ (8 - 1 - 1) % 256) := by unfold Hid; simp
      have hx0 : 0 ≤ n / 281474976710656 % 256 ∧ n / 281474976710656 % 256 ≤ 255 := by omega
      have HX0 := Lib.hid hx0
      clear hx0
      go_wp2_with fail
      generalize hxe : n / 281474976710656 % 256 = x at hx HX0 ⊢
      refine (put_any O _ vr _ _ [x] f _ (HSR.out.is.keep (more (Below.refl _ _) _)) (HoldsB.one wr x HX0.out.1 HX0.out.2) (by have := partL_len l f n 8 1; simp; omega)).mono ?_
      rintro r w2 ⟨rfl, v2, h2⟩
      have H2 := Lib.hid h2
      clear h2
      go_wp2_with fail
      exact ⟨⟨2, v2, by omega, by go_num, by have := HSR.out.trans (OutStep.ahead HSR.out.is (more (Below.refl _ _) _) H2.out); rw [partL_step (by omega) hx.out] at this; exact this⟩, by simp [intOf]⟩
    · have hx : Hid (n / 1099511627776 % 256 = n / 256 ^ (8 - 1 - 2) % 256) := by unfold Hid; simp
      have hx0 : 0 ≤ n / 1099511627776 % 256 ∧ n / 1099511627776 % 256 ≤ 255 := by omega
      have HX0 := Lib.hid hx0
      clear hx0
      go_wp2_with fail
      generalize hxe : n / 1099511627776 % 256 = x at hx HX0 ⊢
      refine (put_any O _ vr _ _ [x] f _ (HSR.out.is.keep (more (Below.refl _ _) _)) (HoldsB.one wr x HX0.out.1 HX0.out.2) (by have := partL_len l f n 8 2; simp; omega)).mono ?_
      rintro r w2 ⟨rfl, v2, h2⟩
      have H2 := Lib.hid h2
      clear h2
      go_wp2_with fail
      exact ⟨⟨3, v2, by omega, by go_num, by have := HSR.out.trans (OutStep.ahead HSR.out.is (more (Below.refl _ _) _) H2.out); rw [partL_step (by omega) hx.out] at this; exact this⟩, by simp [intOf]⟩
    · have hx : Hid (n / 4294967296 % 256 = n / 256 ^ (8 - 1 - 3) % 256) := by unfold Hid; simp
      have hx0 : 0 ≤ n / 4294967296 % 256 ∧ n / 4294967296 % 256 ≤ 255 := by omega
      have HX0 := Lib.hid hx0
      clear hx0
      go_wp2_with fail
      generalize hxe : n / 4294967296 % 256 = x at hx HX0 ⊢
      refine (put_any O _ vr _ _ [x] f _ (HSR.out.is.keep (more (Below.refl _ _) _)) (HoldsB.one wr x HX0.out.1 HX0.out.2) (by have := partL_len l f n 8 3; simp; omega)).mono ?_
      rintro r w2 ⟨rfl, v2, h2⟩
      have H2 := Lib.hid h2
      clear h2
      go_wp2_with fail
      exact ⟨⟨4, v2, by omega, by go_num, by have := HSR.out.trans (OutStep.ahead HSR.out.is (more (Below.refl _ _) _) H2.out); rw [partL_step (by omega) hx.out] at this; exact this⟩, by simp [intOf]⟩
    · have hx : Hid (n / 16777216 % 256 = n / 256 ^ (8 - 1 - 4) % 256) := by unfold Hid; simp
      have hx0 : 0 ≤ n / 16777216 % 256 ∧ n / 16777216 % 256 ≤ 255 := by omega
      have HX0 := Lib.hid hx0
      clear hx0
      go_wp2_with fail
      generalize hxe : n / 16777216 % 256 = x at hx HX0 ⊢
      refine (put_any O _ vr _ _ [x] f _ (HSR.out.is.keep (more (Below.refl _ _) _)) (HoldsB.one wr x HX0.out.1 HX0.out.2) (by have := partL_len l f n 8 4; simp; omega)).mono ?_
      rintro r w2 ⟨rfl, v2, h2⟩
      have H2 := Lib.hid h2
      clear h2
      go_wp2_with fail
      exact ⟨⟨5, v2, by omega, by go_num, by have := HSR.out.trans (OutStep.ahead HSR.out.is (more (Below.refl _ _) _) H2.out); rw [partL_step (by omega) hx.out] at this; exact this⟩, by simp [intOf]⟩
    · have hx : Hid (n / 65536 % 256 = n / 256 ^ (8 - 1 - 5) % 256) := by unfold Hid; simp
      have hx0 : 0 ≤ n / 65536 % 256 ∧ n / 65536 % 256 ≤ 255 := by omega
      have HX0 := Lib.hid hx0
      clear hx0
      go_wp2_with fail
      generalize hxe : n / 65536 % 256 = x at hx HX0 ⊢
      refine (put_any O _ vr _ _ [x] f _ (HSR.out.is.keep (more (Below.refl _ _) _)) (HoldsB.one wr x HX0.out.1 HX0.out.2) (by have := partL_len l f n 8 5; simp; omega)).mono ?_
      rintro r w2 ⟨rfl, v2, h2⟩
      have H2 := Lib.hid h2
      clear h2
      go_wp2_with fail
      exact ⟨⟨6, v2, by omega, by go_num, by have := HSR.out.trans (OutStep.ahead HSR.out.is (more (Below.refl _ _) _) H2.out); rw [partL_step (by omega) hx.out] at this; exact this⟩, by simp [intOf]⟩
    · have hx : Hid (n / 256 % 256 = n / 256 ^ (8 - 1 - 6) % 256) := by unfold Hid; simp
      have hx0 : 0 ≤ n / 256 % 256 ∧ n / 256 % 256 ≤ 255 := by omega
      have HX0 := Lib.hid hx0
      clear hx0
      go_wp2_with fail
      generalize hxe : n / 256 % 256 = x at hx HX0 ⊢
      refine (put_any O _ vr _ _ [x] f _ (HSR.out.is.keep (more (Below.refl _ _) _)) (HoldsB.one wr x HX0.out.1 HX0.out.2) (by have := partL_len l f n 8 6; simp; omega)).mono ?_
      rintro r w2 ⟨rfl, v2, h2⟩
      have H2 := Lib.hid h2
      clear h2
      go_wp2_with fail
      exact ⟨⟨7, v2, by omega, by go_num, by have := HSR.out.trans (OutStep.ahead HSR.out.is (more (Below.refl _ _) _) H2.out); rw [partL_step (by omega) hx.out] at this; exact this⟩, by simp [intOf]⟩
    · have hx : Hid (n % 256 = n / 256 ^ (8 - 1 - 7) % 256) := by unfold Hid; simp
      have hx0 : 0 ≤ n % 256 ∧ n % 256 ≤ 255 := by omega
      have HX0 := Lib.hid hx0
      clear hx0
      go_wp2_with fail
      generalize hxe : n % 256 = x at hx HX0 ⊢
      refine (put_any O _ vr _ _ [x] f _ (HSR.out.is.keep (more (Below.refl _ _) _)) (HoldsB.one wr x HX0.out.1 HX0.out.2) (by have := partL_len l f n 8 7; simp; omega)).mono ?_
      rintro r w2 ⟨rfl, v2, h2⟩
      have H2 := Lib.hid h2
      clear h2
      go_wp2_with fail
      exact ⟨⟨8, v2, by omega, by go_num, by have := HSR.out.trans (OutStep.ahead HSR.out.is (more (Below.refl _ _) _) H2.out); rw [partL_step (by omega) hx.out] at this; exact this⟩, by simp [intOf]⟩
    · go_wp2_with fail
      go_end0
      exact ⟨rfl, vr, by rw [← hl.out.1, hl.out.2]; exact HSR.out⟩

end Go.Proofs.YtgabjmmmiogfjaaDoor

namespace Go.Proofs.YtgabjmmmiogfjaaDoor
open Go.RowKit

theorem lay_any (w : World) : Calls Tryd.prog 47 #[] w fun r w' => r = .returned (.pointer (some ⟨w.heap.size, 0, none⟩)) ∧ w.alloc (outObj (.slice none 0 0) false) = w' := by
  go_enter Tryd.func47, Tryd.ntmps47
  go_wp2_with fail
  go_ret
  exact ⟨rfl, rfl⟩
theorem OutIs.laid (w : World) : OutIs (w.alloc (outObj (.slice none 0 0) false)) w.heap.size (.slice none 0 0) [] false := ⟨Blk.new _ _, World.ownsRow_nil _ _ _ _, Bytes.nil⟩

theorem u16o_any (O : Nat) (v : Value) (l : List Int) (f : Bool) (n : Int) (w : World) (h : OutIs w O v l f) (hn0 : 0 ≤ n) (hn1 : n < 18446744073709551616) (hlen : l.length ≤ 1000000000000) :
    Calls Tryd.prog 99 #[.pointer (some ⟨O, 0, none⟩), .int .u64 n] w (NumPost O v l f n 2 w) := by
  go_enter Tryd.func99, Tryd.ntmps99
  go_wp2_with fail
  refine (number_2 O v l f n _ h hn0 hn1 hlen).mono ?_
  rintro r w1 ⟨rfl, h1⟩
  go_wp2_with fail
  go_end0
  exact ⟨rfl, h1⟩

/-- What Bytes answers. -/
def BytesPost (l : List Int) (f : Bool) (w : World) (r : Ending) (w' : World) : Prop :=
  ∃ v, r = .returned (.tuple #[v, .int .i64 (if f then 8 else 0)]) ∧ w'.ownsRow w.heap.size 5 1 v (if f then [] else l).length (bv (if f then [] else l)) ∧ Below w.heap.size w w'
set_option maxHeartbeats 800000 in
theorem bytes_any (O : Nat) (v : Value) (l : List Int) (f : Bool) (w : World) (h : OutIs w O v l f) (hlen : l.length ≤ 1099511627776) :
    Calls Tryd.prog 52 #[.pointer (some ⟨O, 0, none⟩)] w (BytesPost l f w) := by
  have H := Lib.hid h
  obtain ⟨c0, c1, -⟩ := h.blk.two
  obtain ⟨a, n, cap, rfl⟩ := h.shape
  clear h
  cases f with
  | true =>
    have HP : Hid (BytesPost l true w (.returned (.tuple #[.slice none 0 0, .int .i64 8])) w) := ⟨_, rfl, World.ownsRow_nil _ _ _ _, Below.refl _ _⟩
    go_enter Tryd.func52, Tryd.ntmps52
    go_wp2_with fail
    go_ret2
    exact HP.out
  | false =>
    have HP : Hid (∀ v w', w'.ownsRow w.heap.size 5 1 v l.length (bv l) → Below w.heap.size w w' → BytesPost l false w (.returned (.tuple #[v, .int .i64 0])) w') := fun v w' h1 h2 => ⟨v, rfl, h1, h2⟩
    go_enter Tryd.func52, Tryd.ntmps52
    go_wp2_with fail
    refine (clone_any _ _ l _ H.out.holds (by omega)).mono ?_
    rintro r w1 ⟨v1, rfl, h1, h2⟩
    go_wp2_with fail
    go_ret2
    exact HP.out _ _ h1 h2

/-- From a step on an Out in a new block. -/
theorem OutStep.belowNew {w w1 w2 : World} {O : Nat} {v v1 : Value} {l : List Int} {f : Bool} {B : Nat} (h : OutStep O v v1 l f w1 w2) (hb : Below B w w1) (hO : B ≤ O) (hv : ∀ k, v.ownBlock = some k → B ≤ k) (hs : B ≤ w1.heap.size) : Below B w w2 :=
  hb.trans ⟨h.os, h.tape, h.output, h.size, fun k hk => h.other k (by omega) (by omega) (fun e => by have := hv k e; omega)⟩

end Go.Proofs.YtgabjmmmiogfjaaDoor

namespace Go.Proofs.YtgabjmmmiogfjaaDoor
open Go.RowKit

theorem u8o_any (O : Nat) (v : Value) (l : List Int) (f : Bool) (n : Int) (w : World) (h : OutIs w O v l f) (hn0 : 0 ≤ n) (hn1 : n < 18446744073709551616) (hlen : l.length ≤ 1000000000000) :
    Calls Tryd.prog 48 #[.pointer (some ⟨O, 0, none⟩), .int .u64 n] w (NumPost O v l f n 1 w) := by
  go_enter Tryd.func48, Tryd.ntmps48
  go_wp2_with fail
  refine (number_1 O v l f n _ h hn0 hn1 hlen).mono ?_
  rintro r w1 ⟨rfl, h1⟩
  go_wp2_with fail
  go_end0
  exact ⟨rfl, h1⟩
theorem u32o_any (O : Nat) (v : Value) (l : List Int) (f : Bool) (n : Int) (w : World) (h : OutIs w O v l f) (hn0 : 0 ≤ n) (hn1 : n < 18446744073709551616) (hlen : l.length ≤ 1000000000000) :
    Calls Tryd.prog 69 #[.pointer (some ⟨O, 0, none⟩), .int .u64 n] w (NumPost O v l f n 4 w) := by
  go_enter Tryd.func69, Tryd.ntmps69
  go_wp2_with fail
  refine (number_4 O v l f n _ h hn0 hn1 hlen).mono ?_
  rintro r w1 ⟨rfl, h1⟩
  go_wp2_with fail
  go_end0
  exact ⟨rfl, h1⟩
/-- What a call that lays answers. -/
def LayPost (O : Nat) (v : Value) (l : List Int) (f : Bool) (w : World) (r : Ending) (w' : World) : Prop := r = .returned (.tuple #[]) ∧ ∃ v', OutStep O v v' l f w w'
/-- Bytes below the Out are as they were. -/
theorem OutStep.holds {O M : Nat} {v v1 s : Value} {l l0 p : List Int} {f f0 : Bool} {w w1 : World} (h : OutStep O v v1 l f w w1) (h0 : OutIs w O v l0 f0) (hs : HoldsB w M s p) (hM : M ≤ O) : HoldsB w1 M s p :=
  hs.frame h.size fun k hk hk2 => h.other k hk2 (by omega) (fun e => by have := (h0.row.lt k e).1; omega)
def blobL' (l p : List Int) (f : Bool) : List Int := if 4096 < p.length then [] else if f then l else l ++ digs p.length 2 ++ p
def blobF' (p : List Int) (f : Bool) : Bool := f || decide (4096 < p.length)
theorem blob_parts {l p : List Int} {f : Bool} (h : ¬ 4096 < p.length) : blobL' l p f = putL (numL l f p.length 2) p f ∧ blobF' p f = f ∧ numF f p.length 2 = f := by
  have h2 : ¬ (256 ^ 2 : Int) ≤ p.length := by simp; omega
  unfold blobL' blobF' putL numL numF
  refine ⟨?_, by rw [decide_eq_false h, Bool.or_false], by rw [decide_eq_false h2, Bool.or_false]⟩
  rw [if_neg h, if_neg h2]
  cases f <;> rfl
theorem numL_len (l : List Int) (f : Bool) (n : Int) (k : Nat) : (numL l f n k).length ≤ l.length + k := by
  unfold numL
  split
  · simp
  · split
    · omega
    · rw [List.length_append, digs_len]; omega
set_option maxHeartbeats 1600000 in
theorem blobo_any (O M : Nat) (v s : Value) (l p : List Int) (f : Bool) (w : World) (h : OutIs w O v l f) (hs : HoldsB w M s p) (hM : M ≤ O) (hlen : l.length ≤ 1000000000) :
    Calls Tryd.prog 73 #[.pointer (some ⟨O, 0, none⟩), s] w (LayPost O v (blobL' l p f) (blobF' p f) w) := by
  have H := Lib.hid h
  have HS := Lib.hid hs
  obtain ⟨a, n, cap, rfl, hn⟩ := hs.slice
  have HN := Lib.hid hn
  have hpl := hs.len
  unfold maxLen at hpl
  have hnl : n ≤ 9223372036854775807 := by omega
  clear h hs hpl
  by_cases hbig : 4096 < n
  · have hl : Hid (blobL' l p f = [] ∧ blobF' p f = true) := by
      unfold Hid blobL' blobF'
      rw [if_pos (by omega)]
      exact ⟨rfl, by simp; right; omega⟩
    clear hn
    go_enter Tryd.func73, Tryd.ntmps73
    go_wp2_with fail
    refine (giveUp_any O v l f _ H.out).mono ?_
    rintro r w1 ⟨rfl, h1⟩
    have H1 := Lib.hid h1
    clear h1
    go_wp2_with fail
    go_end0
    exact ⟨rfl, _, by rw [hl.out.1, hl.out.2]; exact H1.out⟩
  · have hl := Lib.hid (blob_parts (l := l) (p := p) (f := f) (by omega))
    clear hn
    go_enter Tryd.func73, Tryd.ntmps73
    go_wp2_with fail
    refine (u16o_any O v l f n _ H.out (by omega) (by omega) (by omega)).mono ?_
    rintro r w1 ⟨rfl, v1, h1⟩
    rw [HN.out, hl.out.2.2] at h1
    have H1 := Lib.hid h1
    clear h1
    go_wp2_with fail
    refine (put_any O M v1 _ _ p f _ H1.out.is (H1.out.holds H.out HS.out hM) (by have := numL_len l f p.length 2; have := HN.out; omega)).mono ?_
    rintro r w2 ⟨rfl, v2, h2⟩
    have H2 := Lib.hid (H1.out.trans h2)
    clear h2
    go_wp2_with fail
    go_end0
    exact ⟨rfl, v2, by rw [hl.out.1, hl.out.2.1]; exact H2.out⟩

theorem HoldsB.box (w : World) (p : List Int) (h7 : Bytes p) (h : p.length ≤ maxLen) (t : TypeId) : HoldsB (w.alloc (.cells (bv p).toArray t)) (w.heap.size + 1) (.slice (some ⟨w.heap.size, 0, none⟩) p.length p.length) p := by
  refine ⟨_, _, rfl, Nat.le_refl _, h, (fun e => by cases e), (fun y hy _ => by cases hy; exact ⟨rfl, Nat.lt_succ_self _, by simp⟩), (fun y i hy hi => ?_), h7⟩
  cases hy
  have := (Blk.new w (.cells (bv p).toArray t)).cell i
  simp only [Nat.zero_add]
  rw [this, List.getElem?_toArray, List.getElem?_map, List.getD_eq_getElem?_getD, List.getElem?_eq_getElem hi]; rfl
end Go.Proofs.YtgabjmmmiogfjaaDoor

namespace Go.Proofs.YtgabjmmmiogfjaaDoor
open Go.RowKit

/-- What Out lays for n short sums, whose bytes are S. -/
def sumsL' (l S : List Int) (n : Nat) (f : Bool) : List Int := putL (numL l f n 1) S (numF f n 1)
def sumsF' (n : Nat) (f : Bool) : Bool := numF f n 1
theorem putL_nil (L : List Int) (f : Bool) : putL L [] f = L := by
  unfold putL
  cases f <;> simp
theorem putL_len (L p : List Int) (f : Bool) : (putL L p f).length ≤ L.length + p.length := by
  unfold putL
  split
  · omega
  · rw [List.length_append]; omega

end Go.Proofs.YtgabjmmmiogfjaaDoor
