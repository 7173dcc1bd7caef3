/-
  SHA-256 on lists of numbers: the words that the walks leave, put together. Nothing of the program is named here.
-/
import Derived.WalkKit
import Derived.Laws.BitsAllLaws
namespace Go.Proofs.Ytioeaknhcfkfcaa
open Go.RowKit

abbrev w32 (x : Int) : Int := IntKind.u32.wrap x
theorem w32_mod (x : Int) : IntKind.u32.wrap x = x % 4294967296 := IntKind.wrap_u32' x
/-- A number that 32 bits hold. -/
def U32 (x : Int) : Prop := 0 ≤ x ∧ x < 4294967296
theorem U32.wrap (x : Int) : U32 (w32 x) := by unfold U32 w32; rw [w32_mod]; omega
theorem bits_wrap (op : BinOp) (x y : Int) : U32 (bits op .u32 x y) := by unfold bits; exact U32.wrap _
theorem or_comm32 (x y : Int) : bits .or .u32 x y = bits .or .u32 y x := by
  unfold bits
  simp only [BitVec.or_comm]
/-- x turned by n bits to the right. -/
def rot (x : Int) (n : Nat) : Int := bits .or .u32 (x / 2 ^ n) (w32 (x * 2 ^ (32 - n)))
theorem rot_u (x : Int) (n : Nat) : U32 (rot x n) := bits_wrap _ _ _
def sm0 (x : Int) : Int := bits .xor .u32 (bits .xor .u32 (rot x 7) (rot x 18)) (x / 8)
def sm1 (x : Int) : Int := bits .xor .u32 (bits .xor .u32 (rot x 17) (rot x 19)) (x / 1024)
def bg0 (x : Int) : Int := bits .xor .u32 (bits .xor .u32 (rot x 2) (rot x 13)) (rot x 22)
def bg1 (x : Int) : Int := bits .xor .u32 (bits .xor .u32 (rot x 6) (rot x 11)) (rot x 25)
def inv (x : Int) : Int := bits .xor .u32 4294967295 x
def chs (e f g : Int) : Int := bits .xor .u32 (bits .and .u32 e f) (bits .and .u32 (inv e) g)
def maj (a b c : Int) : Int := bits .xor .u32 (bits .xor .u32 (bits .and .u32 a b) (bits .and .u32 a c)) (bits .and .u32 b c)
/-- The eight numbers of a state. -/
structure St where
  (a b c d e f g h : Int)
deriving DecidableEq
def St.list (s : St) : List Int := [s.a, s.b, s.c, s.d, s.e, s.f, s.g, s.h]
def step1 (s : St) (k w : Int) : Int := w32 (w32 (w32 (w32 (s.h + bg1 s.e) + chs s.e s.f s.g) + k) + w)
def step2 (s : St) : Int := w32 (bg0 s.a + maj s.a s.b s.c)
def round (s : St) (k w : Int) : St := ⟨w32 (step1 s k w + step2 s), s.a, s.b, s.c, w32 (s.d + step1 s k w), s.e, s.f, s.g⟩
def kon : List Int := [
  0x428a2f98, 0x71374491, 0xb5c0fbcf, 0xe9b5dba5, 0x3956c25b, 0x59f111f1, 0x923f82a4, 0xab1c5ed5,
  0xd807aa98, 0x12835b01, 0x243185be, 0x550c7dc3, 0x72be5d74, 0x80deb1fe, 0x9bdc06a7, 0xc19bf174,
  0xe49b69c1, 0xefbe4786, 0x0fc19dc6, 0x240ca1cc, 0x2de92c6f, 0x4a7484aa, 0x5cb0a9dc, 0x76f988da,
  0x983e5152, 0xa831c66d, 0xb00327c8, 0xbf597fc7, 0xc6e00bf3, 0xd5a79147, 0x06ca6351, 0x14292967,
  0x27b70a85, 0x2e1b2138, 0x4d2c6dfc, 0x53380d13, 0x650a7354, 0x766a0abb, 0x81c2c92e, 0x92722c85,
  0xa2bfe8a1, 0xa81a664b, 0xc24b8b70, 0xc76c51a3, 0xd192e819, 0xd6990624, 0xf40e3585, 0x106aa070,
  0x19a4c116, 0x1e376c08, 0x2748774c, 0x34b0bcb5, 0x391c0cb3, 0x4ed8aa4a, 0x5b9cca4f, 0x682e6ff3,
  0x748f82ee, 0x78a5636f, 0x84c87814, 0x8cc70208, 0x90befffa, 0xa4506ceb, 0xbef9a3f7, 0xc67178f2]
theorem kon_len : kon.length = 64 := rfl
def first : St := ⟨0x6a09e667, 0xbb67ae85, 0x3c6ef372, 0xa54ff53a, 0x510e527f, 0x9b05688c, 0x1f83d9ab, 0x5be0cd19⟩
def word (l : List Int) (t : Nat) : Int := ((l.getD (4 * t) 0 * 256 + l.getD (4 * t + 1) 0) * 256 + l.getD (4 * t + 2) 0) * 256 + l.getD (4 * t + 3) 0
/-- The words of a block, and n that the standard makes of them. -/
def sched (l : List Int) : Nat → List Int
  | 0 => (List.range 16).map (word l)
  | n + 1 => sched l n ++ [w32 (w32 (w32 ((sched l n).getD n 0 + sm0 ((sched l n).getD (n + 1) 0)) + (sched l n).getD (n + 9) 0) + sm1 ((sched l n).getD (n + 14) 0))]
theorem sched_len (l : List Int) (n : Nat) : (sched l n).length = 16 + n := by
  induction n with
  | zero => simp [sched]
  | succ n ih => simp [sched, ih]; omega
def rnds (s : St) (ws : List Int) : Nat → St
  | 0 => s
  | n + 1 => round (rnds s ws n) (kon.getD n 0) (ws.getD n 0)
def St.add (x y : St) : St := ⟨w32 (x.a + y.a), w32 (x.b + y.b), w32 (x.c + y.c), w32 (x.d + y.d), w32 (x.e + y.e), w32 (x.f + y.f), w32 (x.g + y.g), w32 (x.h + y.h)⟩
/-- One block of 64 bytes taken in. -/
def block (s : St) (l : List Int) : St := s.add (rnds s (sched l 48) 64)
/-- n blocks of l. -/
def absorb (l : List Int) : Nat → St
  | 0 => first
  | n + 1 => block (absorb l n) ((l.drop (64 * n)).take 64)
/-- A number below 2^64 as eight bytes. -/
def be64 (n : Int) : List Int := (List.range 8).map fun i => n / 256 ^ (7 - i) % 256
def zeros (n : Nat) : Nat := (119 - n % 64) % 64
def tail (n : Nat) : List Int := [128] ++ List.replicate (zeros n) 0 ++ be64 (8 * (n : Int) % 18446744073709551616)
def pad (l : List Int) : List Int := l ++ tail l.length
def blocks (n : Nat) : Nat := if n % 64 ≤ 55 then n / 64 + 1 else n / 64 + 2
theorem tail_len (n : Nat) : (tail n).length = zeros n + 9 := by simp [tail, be64]
theorem pad_len (l : List Int) : (pad l).length = 64 * blocks l.length := by
  unfold pad blocks
  rw [List.length_append, tail_len]
  unfold zeros
  split <;> omega
def sumSt (l : List Int) : St := absorb (pad l) (blocks l.length)
/-- A word's bytes. -/
def be32 (n : Int) : List Int := [n / 16777216 % 256, n / 65536 % 256, n / 256 % 256, n % 256]
/-- A state's bytes. -/
def St.bytes (s : St) : List Int := be32 s.a ++ be32 s.b ++ be32 s.c ++ be32 s.d ++ be32 s.e ++ be32 s.f ++ be32 s.g ++ be32 s.h
/-- The sum of bytes. -/
def digest (l : List Int) : List Int := (sumSt l).bytes
theorem be32_len (n : Int) : (be32 n).length = 4 := rfl
theorem bytes_len (s : St) : s.bytes.length = 32 := by simp [St.bytes, be32]
theorem digest_len (l : List Int) : (digest l).length = 32 := bytes_len _
/-- The first n blocks of a text hang on these alone. -/
theorem absorb_congr {l m : List Int} (n : Nat) (h : l.take (64 * n) = m.take (64 * n)) : absorb l n = absorb m n := by
  induction n with
  | zero => rfl
  | succ n ih =>
    unfold absorb
    have h1 : l.take (64 * n) = m.take (64 * n) := by
      have := congrArg (List.take (64 * n)) h
      simpa [List.take_take, Nat.min_eq_left (show 64 * n ≤ 64 * (n + 1) by omega)] using this
    have h2 : (l.drop (64 * n)).take 64 = (m.drop (64 * n)).take 64 := by
      have := congrArg (List.drop (64 * n)) h
      rw [List.drop_take, List.drop_take] at this
      simpa [show 64 * (n + 1) - 64 * n = 64 by omega] using this
    rw [ih h1, h2]
theorem absorb_append {l m : List Int} (n : Nat) (h : 64 * n ≤ l.length) : absorb (l ++ m) n = absorb l n :=
  absorb_congr n (by rw [List.take_append_of_le_length h])
end Go.Proofs.Ytioeaknhcfkfcaa
