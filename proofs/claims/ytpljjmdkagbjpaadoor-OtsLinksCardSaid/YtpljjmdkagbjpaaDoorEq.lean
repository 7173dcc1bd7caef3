/-
  Sums held against each other.
-/
import Derived.Test.YtpljjmdkagbjpaaDoorSumH
import Derived.Stop.BytesEq
namespace Go.Proofs.YtpljjmdkagbjpaaDoor
open Go.RowKit

theorem bv_cells {p : List Int} (h : Bytes p) : (p.map fun n => UInt8.ofNat n.toNat).map Extern.Stop.cell = kv .u8 p := by
  rw [List.map_map]
  refine List.map_congr_left fun x hx => ?_
  have := h x hx
  obtain ⟨m, rfl⟩ : ∃ m : Nat, x = m := ⟨x.toNat, by omega⟩
  simp only [Function.comp_def, Extern.Stop.cell, Int.toNat_natCast, UInt8.toNat_ofNat']
  congr 1
  have hm : m % 2 ^ 8 = m := Nat.mod_eq_of_lt (by omega)
  rw [hm]
  rfl
theorem eqIn25 {p : List Int} (hb : Bytes p) (h : p.length = 32) (w : World) : (Op.equalIn 10000 95 (.agg (kv .u8 p).toArray) (.agg (kv .u8 p).toArray)).run Tryd.prog w = .ok true w := by
  have := run_equalIn_bytes (P := Tryd.prog) w 9998 95 5 32 Tryd.underlying95 Tryd.underlying5 size5 (p.map fun n => UInt8.ofNat n.toNat) (p.map fun n => UInt8.ofNat n.toNat) (by simp [h]) (by simp [h])
  rw [bv_cells hb] at this
  simpa using this
/-- A sum, as a value. -/
abbrev dgV (p : List Int) : Value := .agg (kv .u8 p).toArray
theorem eql25 {p : List Int} (hb : Bytes p) (h : p.length = 32) (w : World) : (binOp .eql 95 (dgV p) (dgV p)).run Tryd.prog w = .ok (.bool true) w := by
  rw [run_eql_struct, eqIn25 hb h]; rfl
theorem neq25 {p : List Int} (hb : Bytes p) (h : p.length = 32) (w : World) : (binOp .neq 95 (dgV p) (dgV p)).run Tryd.prog w = .ok (.bool false) w := by
  rw [run_neq_struct, eqIn25 hb h]; rfl
theorem eqg25 (p q : List Int) (x y : Operand) (w : World) : (eqGuard .eql 95 x y (dgV p) (dgV q)).run Tryd.prog w = .ok () w := by kernel_rfl
theorem neg25 (p q : List Int) (x y : Operand) (w : World) : (eqGuard .neq 95 x y (dgV p) (dgV q)).run Tryd.prog w = .ok () w := by kernel_rfl
end Go.Proofs.YtpljjmdkagbjpaaDoor
