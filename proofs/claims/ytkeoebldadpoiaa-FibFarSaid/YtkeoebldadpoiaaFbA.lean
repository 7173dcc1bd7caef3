/-
  Rows in memory (hops, ints, bools, slices), the words of layer 22's walks; the two Lookups.
-/
import Derived.Test.YtkeoebldadpoiaaBase
import Derived.Test.YtkeoebldadpoiaaFlow
import Derived.Test.YtkeoebldadpoiaaFlowV
import Derived.Deep.Cut
import Derived.Deep.MidRow
import Derived.Laws.CopyOwn
import Derived.Deep.WholeRow
namespace Go.Proofs.Ytkeoebldadpoiaa
open Go.RowKit

structure H3 where
  (d n m : Int)
instance : Inhabited H3 := ⟨⟨0, 0, 0⟩⟩
def hc (h : H3) : List Value := [.int .i64 h.d, .int .i64 h.n, .int .i64 h.m]
def ic (n : Int) : List Value := [.int .i64 n]
def bc (b : Bool) : List Value := [.bool b]
def vc (v : Value) : List Value := [v]
/-- A slice that holds the elements l, each of k cells by f, in a block below M. -/
def HoldsF {α : Type} (f : α → List Value) (k : Nat) (w : World) (M : Nat) (v : Value) (l : List α) : Prop :=
  ∃ a cap, v = .slice a l.length cap ∧ l.length ≤ cap ∧ cap ≤ maxLen ∧ ∀ i (hi : i < l.length), ∃ b off, a = some ⟨b, off, none⟩ ∧ b < M ∧ b < w.heap.size ∧ w.rangeAt b (off + i * k) (f l[i])
theorem HoldsF.nil {α : Type} (f : α → List Value) (k : Nat) (w : World) (M : Nat) : HoldsF f k w M (.slice none 0 0) [] := ⟨none, 0, rfl, Nat.le_refl _, by unfold maxLen; omega, fun i hi => absurd hi (by simp)⟩
theorem HoldsF.mono {α : Type} {f : α → List Value} {k : Nat} {w : World} {M M' : Nat} {v : Value} {l : List α} (h : HoldsF f k w M v l) (hM : M ≤ M') : HoldsF f k w M' v l := by
  obtain ⟨a, cap, h1, h2, h3, h4⟩ := h
  refine ⟨a, cap, h1, h2, h3, fun i hi => ?_⟩
  obtain ⟨b, off, e, hb, hs, hr⟩ := h4 i hi
  exact ⟨b, off, e, by omega, hs, hr⟩
theorem rangeAt_below {w w' : World} {B b o : Nat} {l : List Value} (hb : Below B w w') (h : b < B) (hr : w.rangeAt b o l) : w'.rangeAt b o l := fun j v hv => by
  have h1 := hr j v hv
  exact (hb.cell (p := ⟨b, o + j, none⟩) h).trans h1
theorem HoldsF.keep {α : Type} {f : α → List Value} {k : Nat} {w w' : World} {M : Nat} {v : Value} {l : List α} (h : HoldsF f k w M v l) (hb : Below M w w') : HoldsF f k w' M v l := by
  obtain ⟨a, cap, h1, h2, h3, h4⟩ := h
  refine ⟨a, cap, h1, h2, h3, fun i hi => ?_⟩
  obtain ⟨b, off, e, hB, hs, hr⟩ := h4 i hi
  exact ⟨b, off, e, hB, Nat.lt_of_lt_of_le hs hb.size, rangeAt_below hb hB hr⟩
theorem HoldsF.below {α : Type} {f : α → List Value} {k : Nat} {w w' : World} {M : Nat} {v : Value} {l : List α} (h : HoldsF f k w M v l) (hb : Below w.heap.size w w') : HoldsF f k w' M v l := by
  obtain ⟨a, cap, h1, h2, h3, h4⟩ := h
  refine ⟨a, cap, h1, h2, h3, fun i hi => ?_⟩
  obtain ⟨b, off, e, hB, hs, hr⟩ := h4 i hi
  exact ⟨b, off, e, hB, Nat.lt_of_lt_of_le hs hb.size, rangeAt_below hb hs hr⟩
theorem HoldsF.len {α : Type} {f : α → List Value} {k : Nat} {w : World} {M : Nat} {v : Value} {l : List α} (h : HoldsF f k w M v l) : l.length ≤ maxLen := by
  obtain ⟨a, cap, h1, h2, h3, _⟩ := h
  omega
theorem HoldsF.shape {α : Type} {f : α → List Value} {k : Nat} {w : World} {M : Nat} {v : Value} {l : List α} (h : HoldsF f k w M v l) : ∃ a cap, v = .slice a l.length cap := by
  obtain ⟨a, cap, h1, _⟩ := h
  exact ⟨a, cap, h1⟩
theorem gd {α : Type} [Inhabited α] {l : List α} {i : Nat} (hi : i < l.length) : l[i] = l.getD i default := by rw [List.getD_eq_getElem?_getD, List.getElem?_eq_getElem hi]; rfl
theorem HoldsF.hop {w : World} {M : Nat} {a : Option Addr} {n cap : Nat} {l : List H3} (h : HoldsF hc 3 w M (.slice a n cap) l) {i : Nat} (hi : i < l.length) :
    ∃ b off, a = some ⟨b, off, none⟩ ∧ b < w.heap.size ∧ b < M ∧ w.cell? ⟨b, off + i * 3, none⟩ = some (.int .i64 (l.getD i default).d) ∧ w.cell? ⟨b, off + i * 3 + 1, none⟩ = some (.int .i64 (l.getD i default).n) ∧ w.cell? ⟨b, off + i * 3 + 2, none⟩ = some (.int .i64 (l.getD i default).m) := by
  obtain ⟨a', cap', h1, h2, h3, h4⟩ := h
  cases h1
  obtain ⟨b, off, e, hB, hs, hr⟩ := h4 i hi
  rw [gd hi] at hr
  exact ⟨b, off, e, hs, hB, hr 0 _ rfl, hr 1 _ rfl, hr 2 _ rfl⟩
theorem HoldsF.int {w : World} {M : Nat} {a : Option Addr} {n cap : Nat} {l : List Int} (h : HoldsF ic 1 w M (.slice a n cap) l) {i : Nat} (hi : i < l.length) :
    ∃ b off, a = some ⟨b, off, none⟩ ∧ b < w.heap.size ∧ b < M ∧ w.cell? ⟨b, off + i, none⟩ = some (.int .i64 (l.getD i default)) := by
  obtain ⟨a', cap', h1, h2, h3, h4⟩ := h
  cases h1
  obtain ⟨b, off, e, hB, hs, hr⟩ := h4 i hi
  rw [gd hi] at hr
  exact ⟨b, off, e, hs, hB, by simpa using hr 0 _ rfl⟩
theorem HoldsF.bool {w : World} {M : Nat} {a : Option Addr} {n cap : Nat} {l : List Bool} (h : HoldsF bc 1 w M (.slice a n cap) l) {i : Nat} (hi : i < l.length) :
    ∃ b off, a = some ⟨b, off, none⟩ ∧ b < w.heap.size ∧ b < M ∧ w.cell? ⟨b, off + i, none⟩ = some (.bool (l.getD i default)) := by
  obtain ⟨a', cap', h1, h2, h3, h4⟩ := h
  cases h1
  obtain ⟨b, off, e, hB, hs, hr⟩ := h4 i hi
  rw [gd hi] at hr
  exact ⟨b, off, e, hs, hB, by simpa using hr 0 _ rfl⟩
theorem HoldsF.val {w : World} {M : Nat} {a : Option Addr} {n cap : Nat} {l : List Value} (h : HoldsF vc 1 w M (.slice a n cap) l) {i : Nat} (hi : i < l.length) :
    ∃ b off, a = some ⟨b, off, none⟩ ∧ b < w.heap.size ∧ b < M ∧ w.cell? ⟨b, off + i, none⟩ = some (l.getD i default) := by
  obtain ⟨a', cap', h1, h2, h3, h4⟩ := h
  cases h1
  obtain ⟨b, off, e, hB, hs, hr⟩ := h4 i hi
  rw [gd hi] at hr
  exact ⟨b, off, e, hs, hB, by simpa using hr 0 _ rfl⟩

/-- Where a table of hops leads to. -/
def lookF (l : List H3) (dest : Int) : Int := match l.find? (fun h => h.d == dest) with | some h => h.n | none => -1
theorem look_at : ∀ (l : List H3) (dest : Int) (i : Nat), i < l.length → (∀ j, j < i → (l.getD j default).d ≠ dest) → (l.getD i default).d = dest → lookF l dest = (l.getD i default).n
  | [], _, i, hi, _, _ => absurd hi (by simp)
  | h :: t, dest, 0, _, _, e => by
    have e' : h.d = dest := e
    simp [lookF, List.find?, e']
  | h :: t, dest, i + 1, hi, hne, e => by
    have h0 : h.d ≠ dest := hne 0 (by omega)
    have := look_at t dest i (by simpa using hi) (fun j hj => hne (j + 1) (by omega)) e
    simp only [lookF, List.find?, beq_eq_false_iff_ne.2 h0] at this ⊢
    exact this
theorem look_none : ∀ (l : List H3) (dest : Int), (∀ j, j < l.length → (l.getD j default).d ≠ dest) → lookF l dest = -1
  | [], _, _ => rfl
  | h :: t, dest, hne => by
    have h0 : h.d ≠ dest := hne 0 (by simp)
    have := look_none t dest (fun j hj => hne (j + 1) (by simpa using hj))
    simp only [lookF, List.find?, beq_eq_false_iff_ne.2 h0] at this ⊢
    exact this
/-- The first place whose destination is dest, or -1. -/
def FirstP (l : List H3) (dest : Int) (k : Int) : Prop := (k = -1 ∧ ∀ j, j < l.length → (l.getD j default).d ≠ dest) ∨ ∃ i : Nat, i < l.length ∧ k = i ∧ (∀ j, j < i → (l.getD j default).d ≠ dest) ∧ (l.getD i default).d = dest
set_option maxHeartbeats 800000 in
theorem isdest_any (h : H3) (dest : Int) (B : Nat) (w : World) (hB : Blk w B (.cells #[.int .i64 dest] 3)) :
    Calls Try.prog 21 #[.agg #[.int .i64 h.d, .int .i64 h.n, .int .i64 h.m], .pointer (some ⟨B, 0, none⟩)] w fun r w' => r = .returned (.bool (h.d == dest)) ∧ Below w.heap.size w w' := by
  have hc := hB.cell 0
  have hl := hB.lt
  clear hB
  go_enter Try.func21, Try.ntmps21
  go_wp2_with fail
  go_ret
  exact ⟨rfl, more (Below.refl _ _) _⟩
end Go.Proofs.Ytkeoebldadpoiaa
