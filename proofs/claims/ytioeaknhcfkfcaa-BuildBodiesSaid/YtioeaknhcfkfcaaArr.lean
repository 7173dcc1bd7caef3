/-
  Arrays of numbers in memory; a part of a row of bytes. Nothing of the program but the types' numbers is named here.
-/
import Derived.Test.YtioeaknhcfkfcaaRot
namespace Go.Proofs.Ytioeaknhcfkfcaa
open Go.RowKit

/-- The numbers of a list, as values of one kind. -/
abbrev kv (k : IntKind) (l : List Int) : List Value := l.map (Value.int k)
/-- Block b is an array of these numbers. -/
def Row (w : World) (b : Nat) (t : TypeId) (k : IntKind) (l : List Int) : Prop := Blk w b (.cells (kv k l).toArray t)
theorem Row.cell {w : World} {b : Nat} {t : TypeId} {k : IntKind} {l : List Int} (h : Row w b t k l) {i : Nat} (hi : i < l.length) : w.cell? ⟨b, i, none⟩ = some (.int k (l.getD i 0)) := by
  rw [Blk.cell h i]
  simp [List.getElem?_eq_getElem hi, List.getD_eq_getElem?_getD]
theorem Row.frozen {w : World} {b : Nat} {t : TypeId} {k : IntKind} {l : List Int} (h : Row w b t k l) (i : Nat) : w.frozen? ⟨b, i, none⟩ = false := Blk.frozen h i
theorem Row.lt {w : World} {b : Nat} {t : TypeId} {k : IntKind} {l : List Int} (h : Row w b t k l) : b < w.heap.size := Blk.lt h
theorem Row.set {w : World} {b : Nat} {t : TypeId} {k : IntKind} {l : List Int} (h : Row w b t k l) (i : Nat) (x : Int) : Row (w.setCell ⟨b, i, none⟩ (.int k x)) b t k (l.set i x) := by
  have := Blk.set h i (.int k x)
  unfold Row
  have e : ((kv k l).toArray.setIfInBounds i (.int k x)) = (kv k (l.set i x)).toArray := by
    simp [List.map_set]
  rw [← e]
  exact this
theorem Row.keep {w w' : World} {b : Nat} {t : TypeId} {k : IntKind} {l : List Int} (h : Row w b t k l) (hb : Below w.heap.size w w') : Row w' b t k l := Blk.keep h hb
theorem Row.upto {w w' : World} {b B : Nat} {t : TypeId} {k : IntKind} {l : List Int} (h : Row w b t k l) (hb : Below B w w') (hB : b < B) : Row w' b t k l := Blk.upto h hb hB
theorem Row.alloc {w : World} {b : Nat} {t : TypeId} {k : IntKind} {l : List Int} (h : Row w b t k l) (o : Obj) : Row (w.alloc o) b t k l := Blk.old h o
theorem Row.other {w : World} {b : Nat} {t : TypeId} {k : IntKind} {l : List Int} (h : Row w b t k l) {p : Addr} (hp : p.block ≠ b) (v : Value) : Row (w.setCell p v) b t k l := Blk.setOther h hp v
theorem Row.as {w : World} {b : Nat} {t : TypeId} {k : IntKind} {l m : List Int} (h : Row w b t k l) (e : l = m) : Row w b t k m := e ▸ h
theorem Row.drew {w : World} {b : Nat} {t : TypeId} {k : IntKind} {l : List Int} (h : Row w b t k l) : Row w.drew b t k l := h
theorem Row.drewN {w : World} {b : Nat} {t : TypeId} {k : IntKind} {l : List Int} (h : Row w b t k l) (n : Nat) : Row (w.drewN n) b t k l := h
theorem kv_all (k : IntKind) (l : List Int) : (kv k l).toArray.all (·.oneCell') = true := Array.all_eq_true_iff_forall_mem.2 fun v hv => by
  obtain ⟨x, _, rfl⟩ := List.mem_map.1 (show v ∈ kv k l by simpa using hv)
  rfl
theorem kv_size (k : IntKind) (l : List Int) : (kv k l).toArray.size = l.length := by simp
theorem Row.setRow {w : World} {b : Nat} {t : TypeId} {k : IntKind} {l : List Int} (h : Row w b t k l) (m : List Int) : Row (w.setRow b (kv k m).toArray) b t k m := Blk.setRow h _
theorem Row.otherRow {w : World} {b g : Nat} {t : TypeId} {k : IntKind} {l : List Int} (h : Row w b t k l) (hne : b ≠ g) (cs : Array Value) : Row (w.setRow g cs) b t k l := (setRow_other w g b cs hne).trans h
theorem below_drewN {B : Nat} {w w' : World} (h : Below B w w') (n : Nat) : Below B w (w'.drewN n) := ⟨h.os, h.tape, h.output, h.size, h.block⟩
/-- A fact that is kept out of every tactic's sight. -/
structure Kp (p : Prop) : Prop where
  out : p
theorem wp_world {P : Program} {c : Code} {Q : Exit → Act → World → Prop} {a : Act} {w : World} (F : World → Prop) (hF : F w) (h : ∀ w2, F w2 → Code.wp P c Q a w2) : Code.wp P c Q a w := h w hF
theorem wpl_world {P : Program} {ops : Array Oper} {l : List Oper} {Q : Exit → Act → World → Prop} {a : Act} {w : World} (F : World → Prop) (hF : F w) (h : ∀ w2, F w2 → wpList P ops Q l a w2) : wpList P ops Q l a w := h w hF
/-- l, and zeros behind it, n in all. -/
def fill (n : Nat) (l : List Int) : List Int := l ++ List.replicate (n - l.length) 0
theorem fill_len {n : Nat} {l : List Int} (h : l.length ≤ n) : (fill n l).length = n := by simp [fill]; omega
theorem fill_get {n i : Nat} {l : List Int} (h : i < l.length) : (fill n l).getD i 0 = l.getD i 0 := by
  simp [fill, List.getD_eq_getElem?_getD, List.getElem?_append_left h]
theorem fill_set {n : Nat} {l : List Int} (h : l.length < n) (x : Int) : (fill n l).set l.length x = fill n (l ++ [x]) := by
  unfold fill
  obtain ⟨m, hm⟩ : ∃ m, n - l.length = m + 1 := ⟨n - l.length - 1, by omega⟩
  rw [hm, List.set_append_right _ _ (Nat.le_refl _), Nat.sub_self, List.replicate_succ, List.set_cons_zero, List.append_assoc]
  have : n - (l ++ [x]).length = m := by simp; omega
  rw [this]
  rfl
theorem fill_full {n : Nat} {l : List Int} (h : l.length = n) : fill n l = l := by simp [fill, h]
theorem list_eq_getD {l m : List Int} (h : l.length = m.length) (he : ∀ i, i < l.length → l.getD i 0 = m.getD i 0) : l = m := by
  apply List.ext_getElem h
  intro i h1 h2
  have := he i h1
  simpa [List.getD_eq_getElem?_getD, List.getElem?_eq_getElem h1, List.getElem?_eq_getElem h2] using this

set_option maxRecDepth 100000 in
/-- v[i:j]. -/
theorem HoldsB.mid {w : World} {M : Nat} {v : Value} {l : List Int} (h : HoldsB w M v l) {i j : Nat} (hi : i ≤ j) (hj : j ≤ l.length) :
    ∃ v', (∀ w1, (Instr.sliceAt 39 v (some (.int .i64 i)) (some (.int .i64 j)) none).run Try.prog w1 = .ok v' w1) ∧ HoldsB w M v' ((l.drop i).take (j - i)) := by
  obtain ⟨a, cap, rfl, h2, h3, h4, h5, h6, h7⟩ := h
  refine ⟨sliced a i j cap 1, fun w1 => ?_, ?_⟩
  · rw [run_sliceAt_slice (h := Try.underlying39), run_slice_lh (ht := Try.underlying39) (h0 := by omega) (h1 := by omega) (h2 := by omega), elem22, size5]
    simp [Result.andThen]
  · have hlen : ((l.drop i).take (j - i)).length = j - i := by simp; omega
    by_cases hc : cap = i
    · refine ⟨a, cap - i, ?_, by rw [hlen]; omega, by omega, fun e => by have := h4 e; omega, fun x hx h0 => ?_, fun x k hx hk => ?_, (h7.drop i).take _⟩
      · unfold sliced
        rw [if_pos hc, hlen]
      · rw [hlen] at h0; omega
      · rw [hlen] at hk; omega
    · refine ⟨a.map (·.add (i * 1)), cap - i, ?_, by rw [hlen]; omega, by omega, fun e => ?_, fun x hx h0 => ?_, fun x k hx hk => ?_, (h7.drop i).take _⟩
      · unfold sliced
        rw [if_neg hc, hlen]
      · cases a with
        | none => have := h4 rfl; omega
        | some y => simp at e
      · cases a with
        | none => simp at hx
        | some y =>
          simp only [Option.map_some, Option.some.injEq] at hx
          subst hx
          have := h5 y rfl (by rw [hlen] at h0; omega)
          unfold Addr.add
          split <;> simp_all
      · cases a with
        | none => simp at hx
        | some y =>
          simp only [Option.map_some, Option.some.injEq] at hx
          subst hx
          rw [hlen] at hk
          rw [take_getD (by omega), drop_getD]
          have := h6 y (i + k) rfl (by omega)
          have e1 : (y.add (i * 1)).block = y.block := by unfold Addr.add; split <;> rfl
          have e2 : (y.add (i * 1)).off = y.off + i := by unfold Addr.add; split <;> simp_all
          rw [e1, e2, Nat.add_assoc]
          exact this
/-- The cells of a row of bytes that is not empty. -/
theorem HoldsB.open {w : World} {M : Nat} {v : Value} {l : List Int} (h : HoldsB w M v l) (h0 : 0 < l.length) :
    ∃ b off cap, v = .slice (some ⟨b, off, none⟩) l.length cap ∧ l.length ≤ cap ∧ cap ≤ maxLen ∧ b < M ∧ b < w.heap.size ∧ ∀ i, i < l.length → w.cell? ⟨b, off + i, none⟩ = some (.int .u8 (l.getD i 0)) := by
  obtain ⟨a, cap, rfl, h2, h3, h4, h5, h6, h7⟩ := h
  cases a with
  | none => have := h4 rfl; omega
  | some x =>
    obtain ⟨hs, hM, hw⟩ := h5 x rfl h0
    obtain ⟨b, off, spot⟩ := x
    simp only at hs hM hw
    subst hs
    exact ⟨b, off, cap, rfl, h2, h3, hM, hw, fun i hi => h6 _ i rfl hi⟩
/-- Bytes that stand in an array of bytes, from a place on. -/
theorem HoldsB.ofRow2 {w : World} {b off n cap : Nat} {t : TypeId} {cs : Array Value} {fr : Nat × Nat} {l : List Int} (h : Blk w b (.cells cs t fr)) (hn : n = l.length) (hc : n ≤ cap) (hm : cap ≤ maxLen)
    (hcs : ∀ i, i < l.length → cs[off + i]? = some (.int .u8 (l.getD i 0))) (hb : Bytes l) : HoldsB w w.heap.size (.slice (some ⟨b, off, none⟩) n cap) l := by
  subst hn
  refine ⟨_, cap, rfl, hc, hm, (fun e => by cases e), (fun x hx _ => by cases hx; exact ⟨rfl, h.lt, h.lt⟩), (fun x i hx hi => ?_), hb⟩
  cases hx
  rw [h.cell]
  exact hcs i hi
end Go.Proofs.Ytioeaknhcfkfcaa
