/-
  A number as its bytes: plain arithmetic. Nothing of the program is named here.
-/
import Derived.Test.YtlgcpfeaecpocaaBase
import Derived.Laws.BitsAllLaws
namespace Go.Proofs.Ytlgcpfeaecpocaa
open Go.RowKit

/-- The number whose bytes are these, the highest first. -/
def numOf (l : List Int) : Int := l.foldl (fun n b => (n * 256 + b) % 18446744073709551616) 0
theorem numOf_nil : numOf [] = 0 := rfl
theorem numOf_snoc (l : List Int) (b : Int) : numOf (l ++ [b]) = (numOf l * 256 + b) % 18446744073709551616 := by
  unfold numOf; rw [List.foldl_append]; rfl
theorem numOf_take {l : List Int} {i : Nat} (h : i < l.length) : numOf (l.take (i + 1)) = (numOf (l.take i) * 256 + l.getD i 0) % 18446744073709551616 := by
  rw [List.take_succ_eq_append_getElem h, numOf_snoc, List.getD_eq_getElem?_getD, List.getElem?_eq_getElem h]; rfl
theorem numOf_range (l : List Int) (hb : Bytes l) : 0 ≤ numOf l ∧ numOf l < 18446744073709551616 := by
  unfold numOf
  suffices h : ∀ (l : List Int) (a : Int), 0 ≤ a → a < 18446744073709551616 → 0 ≤ l.foldl (fun n b => (n * 256 + b) % 18446744073709551616) a ∧ l.foldl (fun n b => (n * 256 + b) % 18446744073709551616) a < 18446744073709551616 from h l 0 (by decide) (by decide)
  intro l
  induction l with
  | nil => intro a h1 h2; exact ⟨h1, h2⟩
  | cons b r ih => intro a h1 h2; exact ih _ (Int.emod_nonneg _ (by decide)) (Int.emod_lt_of_pos _ (by decide))
theorem wrap_u64 (a : Int) : IntKind.u64.wrap a = a % 18446744073709551616 := by
  simp [IntKind.wrap, IntKind.bits, IntKind.signed]
theorem or_step (m x : Int) (h0 : 0 ≤ x) (h1 : x ≤ 255) : bits .or .u64 (IntKind.u64.wrap (m * 256)) (IntKind.u64.wrap x) = (m * 256 + x) % 18446744073709551616 := by
  rw [wrap_u64, wrap_u64]
  have hx : x % 18446744073709551616 = x := by omega
  rw [hx, u64_or _ _ (by omega) (by omega) h0 (by omega)]
  obtain ⟨q, hq⟩ : ∃ q : Nat, m * 256 % 18446744073709551616 = ((256 * q : Nat) : Int) := ⟨(m * 256 % 18446744073709551616 / 256).toNat, by omega⟩
  obtain ⟨y, rfl⟩ : ∃ y : Nat, x = y := ⟨x.toNat, by omega⟩
  rw [hq]
  have hor : 256 * q ||| y = 256 * q + y := by
    have := Nat.two_pow_add_eq_or_of_lt (i := 8) (b := y) (by omega) q
    simpa using this.symm
  simp only [Int.toNat_natCast]
  rw [hor]
  omega
theorem add_step (m x : Int) (h0 : 0 ≤ x) (h1 : x ≤ 255) : IntKind.u64.wrap (IntKind.u64.wrap (m * 256) + IntKind.u64.wrap x) = (m * 256 + x) % 18446744073709551616 := by
  rw [wrap_u64, wrap_u64, wrap_u64]
  omega
theorem numOf_one {l : List Int} (h : l.length ≤ 1) (hb : Bytes l) : 0 ≤ numOf l ∧ numOf l ≤ 255 := by
  match l, h with
  | [], _ => decide
  | [a], _ =>
    have := hb a (by simp)
    simp only [numOf, List.foldl_cons, List.foldl_nil]
    omega
theorem numOf_two {l : List Int} (h : l.length ≤ 2) (hb : Bytes l) : 0 ≤ numOf l ∧ numOf l ≤ 65535 := by
  match l, h with
  | [], _ => decide
  | [a], _ =>
    have := hb a (by simp)
    simp only [numOf, List.foldl_cons, List.foldl_nil]
    omega
  | [a, b], _ =>
    have := hb a (by simp)
    have := hb b (by simp)
    simp only [numOf, List.foldl_cons, List.foldl_nil]
    omega
end Go.Proofs.Ytlgcpfeaecpocaa
