/-
  The calls on an In that has stopped.
-/
import Derived.Test.YtgpjffchpppceaaTakeP
namespace Go.Proofs.Ytgpjffchpppceaa
open Go.RowKit

/-- The In in block I has stopped with the error F; what lay below B is as it was in w. -/
structure Stp (B I : Nat) (F : Int) (w w1 : World) : Prop where
  is : InIs w1 I I [] F
  below : Below B w w1
  le : B ≤ I
  err : F ≠ 0
def StpPost (v : Value) (B I : Nat) (F : Int) (w w1 : World) (r : Ending) (w2 : World) : Prop :=
  r = .returned v ∧ Stp B I F w w2 ∧ ∀ b o, b ≠ I → Blk w1 b o → Blk w2 b o
theorem Stp.size {B I : Nat} {F : Int} {w w1 : World} (h : Stp B I F w w1) : B ≤ w1.heap.size := by
  have := h.is.lt
  have := h.le
  omega
theorem Stp.step {B I : Nat} {F F2 : Int} {l : List Int} {w w1 w2 : World} (h : Stp B I F w w1) (k : InStep I I l F2 w1 w2) (hl : l = []) (hF : F2 = F) : Stp B I F w w2 ∧ ∀ b o, b ≠ I → Blk w1 b o → Blk w2 b o := by
  subst hl hF
  obtain ⟨h1, o, ho⟩ := k
  exact ⟨⟨h1, h.below.trans (ho.below h.le h.size), h.le, h.err⟩, fun b o' hne hb => ho.keep hb hne⟩
theorem Stp.same {B I : Nat} {F : Int} {w w1 : World} (h : Stp B I F w w1) : Stp B I F w w1 ∧ ∀ b o, b ≠ I → Blk w1 b o → Blk w1 b o := ⟨h, fun _ _ _ h => h⟩
theorem nextP_stop {F : Int} (h : F ≠ 0) (l : List Int) (k : Nat) : nextP l F k = [] := if_neg (by omega)
theorem nextL_stop {F : Int} (h : F ≠ 0) (l : List Int) (k : Nat) : nextL l F k = [] := if_neg (by omega)
theorem nextE_stop {F : Int} (h : F ≠ 0) (l : List Int) (k : Nat) : nextE l F k = F := if_neg (by omega)
theorem manyB_stop {F : Int} (h : F ≠ 0) (l : List Int) (k : Nat) (m : Int) : manyB l F k m = false := by
  unfold manyB
  rw [nextP_stop h, numOf_nil]
  simp only [decide_eq_false_iff_not]
  split <;> omega
theorem manyR_stop {F : Int} (h : F ≠ 0) (l : List Int) (k : Nat) (m : Int) : manyR l F k m = 0 := by
  unfold manyR
  rw [manyB_stop h, nextP_stop h]; rfl
theorem manyL_stop {F : Int} (h : F ≠ 0) (l : List Int) (k : Nat) (m : Int) : manyL l F k m = [] := by
  unfold manyL
  rw [manyB_stop h, nextL_stop h]; rfl
theorem manyE_stop {F : Int} (h : F ≠ 0) (l : List Int) (k : Nat) (m : Int) : manyE l F k m = F := by
  unfold manyE
  rw [manyB_stop h, nextE_stop h]; rfl

section
variable {B I : Nat} {F : Int} {w w1 : World}
theorem u8_stop (h : Stp B I F w w1) : Calls Try.prog 17 #[.pointer (some ⟨I, 0, none⟩)] w1 (StpPost (.int .u64 0) B I F w w1) := by
  refine (u8_any I I [] F _ h.is).mono ?_
  rintro r w2 ⟨rfl, h2⟩
  exact ⟨by rw [nextP_stop h.err, numOf_nil], h.step h2 (nextL_stop h.err _ _) (nextE_stop h.err _ _)⟩
theorem u16_stop (h : Stp B I F w w1) : Calls Try.prog 18 #[.pointer (some ⟨I, 0, none⟩)] w1 (StpPost (.int .u64 0) B I F w w1) := by
  refine (u16_any I I [] F _ h.is).mono ?_
  rintro r w2 ⟨rfl, h2⟩
  exact ⟨by rw [nextP_stop h.err, numOf_nil], h.step h2 (nextL_stop h.err _ _) (nextE_stop h.err _ _)⟩
theorem u32_stop (h : Stp B I F w w1) : Calls Try.prog 19 #[.pointer (some ⟨I, 0, none⟩)] w1 (StpPost (.int .u64 0) B I F w w1) := by
  refine (u32_any I I [] F _ h.is).mono ?_
  rintro r w2 ⟨rfl, h2⟩
  exact ⟨by rw [nextP_stop h.err, numOf_nil], h.step h2 (nextL_stop h.err _ _) (nextE_stop h.err _ _)⟩
theorem u64_stop (h : Stp B I F w w1) : Calls Try.prog 20 #[.pointer (some ⟨I, 0, none⟩)] w1 (StpPost (.int .u64 0) B I F w w1) := by
  refine (u64_any I I [] F _ h.is).mono ?_
  rintro r w2 ⟨rfl, h2⟩
  exact ⟨by rw [nextP_stop h.err, numOf_nil], h.step h2 (nextL_stop h.err _ _) (nextE_stop h.err _ _)⟩
theorem sum_stop (h : Stp B I F w w1) : Calls Try.prog 21 #[.pointer (some ⟨I, 0, none⟩)] w1 (StpPost (sumV z16) B I F w w1) := by
  refine (sum_any I I [] F _ h.is).mono ?_
  rintro r w2 ⟨rfl, h2⟩
  have hz : sumP [] F = z16 := if_neg (by simp)
  exact ⟨by rw [hz], h.step h2 (nextL_stop h.err _ _) (nextE_stop h.err _ _)⟩
theorem left_stop (h : Stp B I F w w1) : Calls Try.prog 28 #[.pointer (some ⟨I, 0, none⟩)] w1 (StpPost (.int .i64 0) B I F w w1) := by
  refine (left_any I I [] F _ h.is).mono ?_
  rintro r w2 ⟨rfl, rfl⟩
  exact ⟨rfl, h.same⟩
theorem err_stop (h : Stp B I F w w1) : Calls Try.prog 26 #[.pointer (some ⟨I, 0, none⟩)] w1 (StpPost (.int .i64 F) B I F w w1) := by
  refine (err_any I I [] F _ h.is).mono ?_
  rintro r w2 ⟨rfl, rfl⟩
  exact ⟨rfl, h.same⟩
theorem end_stop (h : Stp B I F w w1) : Calls Try.prog 15 #[.pointer (some ⟨I, 0, none⟩)] w1 fun r w2 => r = .returned (.int .i64 F) ∧ Below B w w2 := by
  refine (end_any I I [] F _ h.is).mono ?_
  rintro r w2 ⟨rfl, l', h1, o, ho⟩
  exact ⟨rfl, h.below.trans (ho.below h.le h.size)⟩
theorem sums_stop (h : Stp B I F w w1) {m : Int} (hm0 : -9223372036854775808 ≤ m) (hm1 : m ≤ 9223372036854775807) :
    Calls Try.prog 24 #[.pointer (some ⟨I, 0, none⟩), .int .i64 m] w1 fun r w2 => ∃ a c, StpPost (.slice a 0 c) B I F w w1 r w2 := by
  refine (sums_any I I [] F m _ h.is hm0 hm1).mono ?_
  rintro r w2 ⟨v, n, rfl, hl, hn, ho, h2⟩
  have e : sumsP [] F m = [] := by
    unfold sumsP
    rw [manyE_stop h.err, nextP_stop h.err]
  rw [e] at hl
  obtain rfl : n = 0 := by simp at hl; omega
  have hsh : ∃ a c, v = .slice a 0 c := by
    rcases ho.2 with ⟨rfl, _⟩ | ⟨g, cap, cur, rfl, _⟩ <;> exact ⟨_, _, rfl⟩
  obtain ⟨a, c, rfl⟩ := hsh
  refine ⟨a, c, rfl, h.step h2 ?_ ?_⟩
  · unfold sumsL
    rw [manyE_stop h.err, nextL_stop h.err]
  · unfold sumsE
    rw [manyE_stop h.err, nextE_stop h.err]
theorem blob_stop (h : Stp B I F w w1) {m : Int} (hm0 : -9223372036854775808 ≤ m) (hm1 : m ≤ 9223372036854775807) :
    Calls Try.prog 25 #[.pointer (some ⟨I, 0, none⟩), .int .i64 m] w1 fun r w2 => ∃ a c, StpPost (.slice a 0 c) B I F w w1 r w2 := by
  refine (blob_any I I [] F m _ h.is hm0 hm1).mono ?_
  rintro r w2 ⟨v, rfl, ⟨_, ho⟩, h2⟩
  have e : blobP [] F m = [] := by
    unfold blobP
    rw [manyE_stop h.err, nextP_stop h.err]
  rw [e] at ho
  have hsh : ∃ a c, v = .slice a 0 c := by
    rcases ho.2 with ⟨rfl, _⟩ | ⟨g, cap, cur, rfl, _⟩ <;> exact ⟨_, _, rfl⟩
  obtain ⟨a, c, rfl⟩ := hsh
  refine ⟨a, c, rfl, h.step h2 ?_ ?_⟩
  · unfold blobL
    rw [manyE_stop h.err, nextL_stop h.err]
  · unfold blobE
    rw [manyE_stop h.err, nextE_stop h.err]
end
abbrev z16a : Array Value := #[.int .u8 0, .int .u8 0, .int .u8 0, .int .u8 0, .int .u8 0, .int .u8 0, .int .u8 0, .int .u8 0, .int .u8 0, .int .u8 0, .int .u8 0, .int .u8 0, .int .u8 0, .int .u8 0, .int .u8 0, .int .u8 0]
theorem neg_z (x y : Operand) (w : World) : (eqGuard .neq 51 x y (sumV z16) (.agg #[.int .u8 0, .int .u8 0, .int .u8 0, .int .u8 0, .int .u8 0, .int .u8 0, .int .u8 0, .int .u8 0, .int .u8 0, .int .u8 0, .int .u8 0, .int .u8 0, .int .u8 0, .int .u8 0, .int .u8 0, .int .u8 0])).run Try.prog w = .ok () w := by kernel_rfl
theorem neq_z (w : World) : (binOp .neq 51 (sumV z16) (.agg #[.int .u8 0, .int .u8 0, .int .u8 0, .int .u8 0, .int .u8 0, .int .u8 0, .int .u8 0, .int .u8 0, .int .u8 0, .int .u8 0, .int .u8 0, .int .u8 0, .int .u8 0, .int .u8 0, .int .u8 0, .int .u8 0])).run Try.prog w = .ok (.bool false) w :=
  neq51 (p := z16) (by intro x hx; simp at hx; omega) rfl w
/-- The error that FieldStops reports is none that is 0. -/
theorem fails_pos (e : Int) : wrap64 (IntKind.u64.wrap (1 + (IntKind.u64.wrap e).tmod 40)) ≠ 0 := by
  have h1 := wrap_u64 e
  generalize IntKind.u64.wrap e = x at h1 ⊢
  have h2 : 0 ≤ x := by omega
  rw [Int.tmod_eq_emod_of_nonneg h2, wrap_u64]
  unfold wrap64
  omega
theorem InIs.stopped {w : World} {I : Nat} {l : List Int} {e f : Int} (h : InIs w I I l e) (hf : f ≠ 0) : failL l e f = [] ∧ failE e f ≠ 0 := by
  unfold failL failE
  by_cases he : e = 0
  · subst he
    simp [hf]
  · simp [he, h.none he]
end Go.Proofs.Ytgpjffchpppceaa
