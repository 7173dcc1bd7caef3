/-
  The bytes that digits are: what both Unhex tell; a row of zeros, made; a byte of a text.
-/
import Derived.Test.YtahmioiefmheeaaDoorHexT
namespace Go.Proofs.YtahmioiefmheeaaDoor
open Go.RowKit

def digA (c : List UInt8) (i : Nat) : Int := dig (c.getD (2 * i) 0) 16
def digB (c : List UInt8) (i : Nat) : Int := dig (c.getD (2 * i + 1) 0) 16
/-- The first k pairs are digits. -/
def unhK (c : List UInt8) : Nat → Bool
  | 0 => true
  | k + 1 => unhK c k && (decide (0 ≤ digA c k) && decide (0 ≤ digB c k))
def unhI (c : List UInt8) (k : Nat) : List Int := (List.range k).map fun i => (16 * digA c i + digB c i) % 256
def unhOk (c : List UInt8) : Bool := decide (c.length % 2 = 0) && unhK c (c.length / 2)
def unhE (c : List UInt8) : Int := if unhOk c then 0 else 10
def unhL (c : List UInt8) : List Int := if unhOk c then unhI c (c.length / 2) else []
theorem unhK_bad (c : List UInt8) (k n : Nat) (h : unhK c k = false) (hk : k ≤ n) : unhK c n = false := by
  induction n with
  | zero => obtain rfl : k = 0 := by omega
            exact h
  | succ n ih =>
    by_cases e : k = n + 1
    · rw [← e]; exact h
    · rw [unhK, ih (by omega)]; rfl
theorem unhI_len (c : List UInt8) (k : Nat) : (unhI c k).length = k := by simp [unhI]
theorem unhI_snoc (c : List UInt8) (k : Nat) : unhI c (k + 1) = unhI c k ++ [(16 * digA c k + digB c k) % 256] := by simp [unhI, List.range_succ]
theorem unhI_bytes (c : List UInt8) (k : Nat) : Bytes (unhI c k) := by
  intro x hx
  obtain ⟨i, -, rfl⟩ := List.mem_map.1 hx
  omega
theorem unhOk_odd (c : List UInt8) (h : c.length % 2 ≠ 0) : unhE c = 10 ∧ unhL c = [] := by
  have : unhOk c = false := by simp [unhOk, h]
  simp [unhE, unhL, this]
theorem unhOk_bad (c : List UInt8) (k : Nat) (hk : k < c.length / 2) (h : ¬ (0 ≤ digA c k ∧ 0 ≤ digB c k)) : unhE c = 10 ∧ unhL c = [] := by
  have h1 : unhK c (k + 1) = false := by
    rw [unhK]
    have : (decide (0 ≤ digA c k) && decide (0 ≤ digB c k)) = false := by
      cases hb : (decide (0 ≤ digA c k) && decide (0 ≤ digB c k)) with
      | false => rfl
      | true => simp at hb; exact absurd hb h
    rw [this, Bool.and_false]
  have : unhOk c = false := by rw [unhOk, unhK_bad c _ _ h1 (by omega), Bool.and_false]
  simp [unhE, unhL, this]
theorem unhOk_all (c : List UInt8) (h : c.length % 2 = 0) (h1 : unhK c (c.length / 2) = true) : unhE c = 0 ∧ unhL c = unhI c (c.length / 2) := by
  have : unhOk c = true := by simp [unhOk, h, h1]
  simp [unhE, unhL, this]
theorem idxS (c : List UInt8) (j : Nat) (hj : j < c.length) (w : World) : (Instr.index 9 (.string ⟨c.toArray⟩) (.int .i64 j)).run Tryd.prog w = .ok (.int .u8 (c.getD j 0).toNat) w := by
  have hs : (ByteArray.mk c.toArray).size = c.length := by simp [ByteArray.size]
  rw [run_index_string w 9 _ .i64 j (by kernel_rfl), dif_pos ⟨by omega, by rw [hs]; omega⟩]
  congr 3
  rw [List.getD_eq_getElem?_getD, List.getElem?_eq_getElem hj]
  rfl
theorem info22m : (Tryd.prog.info? 5).map (fun i => (i.zero, i.size, i.bytes)) = some (some (.int .u8 0), 1, 1) := by kernel_rfl
theorem made1 (n : Nat) : madeCells #[.int .u8 0] n = (bv (List.replicate n 0)).toArray := by
  apply Array.ext_getElem?
  intro j
  by_cases hj : j < n
  · have : j % 1 = 0 := by omega
    simp [madeCells, hj, this]
  · simp [madeCells, hj]
/-- A row of n bytes. -/
theorem make22n (n : Nat) (hn : n ≤ 70368744177664) (w : World) : (Instr.makeSlice 22 (.int .i64 n) (.int .i64 n)).run Tryd.prog w = .ok (.slice (some ⟨w.heap.size, 0, none⟩) n n) (w.alloc (.cells (bv (List.replicate n 0)).toArray 5)) := by
  obtain ⟨i0, hi, hz0, hz1, hz2⟩ := info_parts info22m
  have h := run_make (P := Tryd.prog) w 22 5 i0 _ Tryd.underlying22 hi hz0 .i64 .i64 n n (by omega) (Int.le_refl _) (by rw [hz2]; omega) (by omega)
  rw [h, ← made1, hz1]
  simp [Value.cells, Int.toNat_natCast]
end Go.Proofs.YtahmioiefmheeaaDoor
