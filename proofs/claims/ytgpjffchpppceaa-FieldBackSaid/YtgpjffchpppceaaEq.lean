/-
  Short sums held against each other.
-/
import Derived.Test.YtgpjffchpppceaaRefE
import Derived.Stop.BytesEq
import Derived.Deep.MidRow
namespace Go.Proofs.Ytgpjffchpppceaa
open Go.RowKit

theorem bv_cells {p : List Int} (h : Bytes p) : (p.map fun n => UInt8.ofNat n.toNat).map Extern.Stop.cell = bv p := by
  rw [List.map_map]
  refine List.map_congr_left fun x hx => ?_
  have := h x hx
  obtain ⟨m, rfl⟩ : ∃ m : Nat, x = m := ⟨x.toNat, by omega⟩
  simp only [Function.comp_def, Extern.Stop.cell, Int.toNat_natCast, UInt8.toNat_ofNat']
  congr 1
  have hm : m % 2 ^ 8 = m := Nat.mod_eq_of_lt (by omega)
  rw [hm]
  rfl
theorem eqIn51 {p : List Int} (hb : Bytes p) (h : p.length = 16) (w : World) : (Op.equalIn 10000 51 (.agg (bv p).toArray) (.agg (bv p).toArray)).run Try.prog w = .ok true w := by
  have := run_equalIn_bytes (P := Try.prog) w 9998 51 5 16 Try.underlying51 Try.underlying5 size5 (p.map fun n => UInt8.ofNat n.toNat) (p.map fun n => UInt8.ofNat n.toNat) (by simp [h]) (by simp [h])
  rw [bv_cells hb] at this
  simpa using this
theorem eqIn42 {p : List Int} (hb : Bytes p) (h : p.length = 16) (w : World) : (Op.equalIn 10000 42 (.agg (bv p).toArray) (.agg (bv p).toArray)).run Try.prog w = .ok true w := by
  have := run_equalIn_bytes (P := Try.prog) w 9998 42 5 16 Try.underlying42 Try.underlying5 size5 (p.map fun n => UInt8.ofNat n.toNat) (p.map fun n => UInt8.ofNat n.toNat) (by simp [h]) (by simp [h])
  rw [bv_cells hb] at this
  simpa using this
theorem eql51 {p : List Int} (hb : Bytes p) (h : p.length = 16) (w : World) : (binOp .eql 51 (sumV p) (sumV p)).run Try.prog w = .ok (.bool true) w := by
  unfold sumV; rw [run_eql_struct, eqIn51 hb h]; rfl
theorem eql42 {p : List Int} (hb : Bytes p) (h : p.length = 16) (w : World) : (binOp .eql 42 (sumV p) (sumV p)).run Try.prog w = .ok (.bool true) w := by
  unfold sumV; rw [run_eql_struct, eqIn42 hb h]; rfl
theorem neq51 {p : List Int} (hb : Bytes p) (h : p.length = 16) (w : World) : (binOp .neq 51 (sumV p) (sumV p)).run Try.prog w = .ok (.bool false) w := by
  unfold sumV; rw [run_neq_struct, eqIn51 hb h]; rfl
theorem neq42 {p : List Int} (hb : Bytes p) (h : p.length = 16) (w : World) : (binOp .neq 42 (sumV p) (sumV p)).run Try.prog w = .ok (.bool false) w := by
  unfold sumV; rw [run_neq_struct, eqIn42 hb h]; rfl

theorem eqg51 (p q : List Int) (x y : Operand) (w : World) : (eqGuard .eql 51 x y (sumV p) (sumV q)).run Try.prog w = .ok () w := by kernel_rfl
theorem neg51 (p q : List Int) (x y : Operand) (w : World) : (eqGuard .neq 51 x y (sumV p) (sumV q)).run Try.prog w = .ok () w := by kernel_rfl
/-- The slice v holds n short sums, whose bytes are l. -/
def HoldsS (w : World) (v : Value) (n : Nat) (l : List Int) : Prop :=
  ∃ a cap, v = .slice a n cap ∧ l.length = n * 16 ∧ n ≤ maxLen ∧ Bytes l ∧ (0 < n → ∃ b off, a = some ⟨b, off, none⟩ ∧ b < w.heap.size ∧ ∀ j, j < n * 16 → w.cell? ⟨b, off + j, none⟩ = some (.int .u8 (l.getD j 0)))
theorem HoldsS.keep {w w' : World} {v : Value} {n : Nat} {l : List Int} (h : HoldsS w v n l) (hb : Below w.heap.size w w') : HoldsS w' v n l := by
  obtain ⟨a, cap, h1, h2, h3, h4, h5⟩ := h
  refine ⟨a, cap, h1, h2, h3, h4, fun h0 => ?_⟩
  obtain ⟨b, off, ha, hlt, hc⟩ := h5 h0
  exact ⟨b, off, ha, Nat.lt_of_lt_of_le hlt hb.size, fun j hj => (hb.cell (p := ⟨b, off + j, none⟩) hlt).trans (hc j hj)⟩
theorem HoldsS.ofRow {w : World} {base n : Nat} {t : TypeId} {v : Value} {l : List Int} (h7 : Bytes l) (hn : n ≤ maxLen) (hl : l.length = n * 16) (h : w.ownsRow base t 16 v n (bv l)) : HoldsS w v n l := by
  rcases h.2 with ⟨rfl, h0⟩ | ⟨g, cap, cur, rfl, hb, hg, h1, h2, h3, h4⟩
  · subst h0
    exact ⟨none, 0, rfl, hl, hn, h7, fun h => by omega⟩
  · refine ⟨_, cap, rfl, hl, hn, h7, fun _ => ⟨g, 0, rfl, (Array.getElem?_eq_some_iff.1 hg).1, fun j hj => ?_⟩⟩
    rw [cell_of_row w g (0 + j) cur t (0, 0) hg]
    have h5 : (bv l)[j]? = some (.int .u8 (l.getD j 0)) := by
      rw [List.getElem?_map, List.getD_eq_getElem?_getD, List.getElem?_eq_getElem (by omega)]
      simp
    rw [← h4, List.getElem?_take, if_pos hj] at h5
    simpa using h5
/-- The bytes of the i-th one. -/
def sumAt (l : List Int) (i : Nat) : List Int := (l.drop (i * 16)).take 16
theorem sumAt_len {l : List Int} {n i : Nat} (h : l.length = n * 16) (hi : i < n) : (sumAt l i).length = 16 := by
  unfold sumAt
  rw [List.length_take, List.length_drop]
  omega
theorem sumAt_bytes {l : List Int} (h : Bytes l) (i : Nat) : Bytes (sumAt l i) := (h.drop _).take _
theorem HoldsS.range {w : World} {a : Option Addr} {n m cap : Nat} {l : List Int} (h : HoldsS w (.slice a m cap) n l) {i : Nat} (hi : i < n) : ∃ b off, a = some ⟨b, off, none⟩ ∧ b < w.heap.size ∧ w.rangeAt b (off + i * 16) (bv (sumAt l i)) := by
  obtain ⟨a', cap', h1, h2, h3, h4, h5⟩ := h
  simp only [Value.slice.injEq] at h1
  obtain ⟨rfl, rfl, rfl⟩ := h1
  obtain ⟨b, off, rfl, hlt, hc⟩ := h5 (by omega)
  refine ⟨b, off, rfl, hlt, fun j v hv => ?_⟩
  unfold sumAt bv at hv
  have hj : j < 16 := by
    have := (List.getElem?_eq_some_iff.1 hv).1
    rw [List.length_map, List.length_take] at this
    omega
  have := hc (i * 16 + j) (by omega)
  rw [Nat.add_assoc, this, ← hv, List.getElem?_map, List.getElem?_take, if_pos hj, List.getElem?_drop, List.getD_eq_getElem?_getD, List.getElem?_eq_getElem (by omega)]
  rfl
end Go.Proofs.Ytgpjffchpppceaa
