/-
  Bytes in memory, and what a call leaves as it was: the words in which the contracts of this seat are said. Nothing of the program is named here.
-/
import Derived.Test.YtcppmkblllappaaDoorProg
import Derived.Test.YtcppmkblllappaaDoorFlow
import Derived.WalkKit
import Derived.WalkSpells
import Derived.WalkLawsBesides
import Derived.BigQuiet
import Derived.Deep.QuietTactic
import Derived.Outline
import Derived.LoopTactic
import Derived.ProofKit
import Derived.Deep.Slices
import Derived.Deep.Fields
import Derived.Deep.Strs
import Derived.Laws.AppendOwn
import Derived.Laws.OwnMore
import Derived.Laws.AppendOwnNone
import Derived.Laws.CopyOwn
import Derived.Laws.BytesArg
import Derived.Laws.Tables
import Derived.Laws.Rows
import Derived.Lib.Hide
namespace Go.Proofs.YtcppmkblllappaaDoor
open Go.RowKit

/-- Block b is turned into o; all else that was in memory is as it was. -/
structure Turn (b : Nat) (o : Obj) (w w' : World) : Prop where
  os : w'.os = w.os
  tape : w'.tape = w.tape
  output : w'.output = w.output
  size : w.heap.size ≤ w'.heap.size
  blk : Blk w' b o
  other : ∀ k, k < w.heap.size → k ≠ b → w'.heap[k]? = w.heap[k]?
theorem Turn.same {b : Nat} {o : Obj} {w : World} (h : Blk w b o) : Turn b o w w := ⟨rfl, rfl, rfl, Nat.le_refl _, h, fun _ _ _ => rfl⟩
theorem Turn.of {b : Nat} {o : Obj} {w w' : World} (h : Blk w b o) (hb : Below w.heap.size w w') : Turn b o w w' := ⟨hb.os, hb.tape, hb.output, hb.size, h.keep hb, fun k hk _ => hb.block k hk⟩
theorem Turn.below {b B : Nat} {o : Obj} {w w' : World} (h : Turn b o w w') (hB : B ≤ b) (hs : B ≤ w.heap.size) : Below B w w' := ⟨h.os, h.tape, h.output, h.size, fun k hk => h.other k (by omega) (by omega)⟩
theorem Turn.keep {b c : Nat} {o o' : Obj} {w w' : World} (h : Turn b o w w') (hk : Blk w c o') (hne : c ≠ b) : Blk w' c o' := (h.other c hk.lt hne).trans hk
theorem Turn.set {b : Nat} {cs : Array Value} {t : TypeId} {fr : Nat × Nat} {w w' : World} (h : Turn b (.cells cs t fr) w w') (i : Nat) (v : Value) : Turn b (.cells (cs.setIfInBounds i v) t fr) w (w'.setCell ⟨b, i, none⟩ v) :=
  ⟨h.os, h.tape, h.output, by simpa [World.setCell] using h.size, h.blk.set i v, fun k hk hne => by rw [Below.heap_setCell _ _ _ _ hne]; exact h.other k hk hne⟩
theorem Turn.drew {b : Nat} {o : Obj} {w w' : World} (h : Turn b o w w') : Turn b o w w'.drew := ⟨h.os, h.tape, h.output, h.size, h.blk, h.other⟩
theorem Turn.drewN {b : Nat} {o : Obj} {w w' : World} (h : Turn b o w w') (n : Nat) : Turn b o w (w'.drewN n) := ⟨h.os, h.tape, h.output, h.size, h.blk, h.other⟩
theorem Turn.as {b : Nat} {o o' : Obj} {w w' : World} (h : Turn b o w w') (e : o = o') : Turn b o' w w' := e ▸ h
theorem Turn.trans {b : Nat} {o o' : Obj} {w w1 w2 : World} (h : Turn b o w w1) (k : Turn b o' w1 w2) : Turn b o' w w2 :=
  ⟨k.os.trans h.os, k.tape.trans h.tape, k.output.trans h.output, Nat.le_trans h.size k.size, k.blk, fun i hi hne => (k.other i (Nat.lt_of_lt_of_le hi h.size) hne).trans (h.other i hi hne)⟩
theorem Turn.more {b : Nat} {o : Obj} {w w1 w2 : World} (h : Turn b o w w1) (k : Below w1.heap.size w1 w2) : Turn b o w w2 := h.trans (Turn.of h.blk k)
theorem Turn.ahead {b : Nat} {o : Obj} {w w1 w2 : World} (h : Below w.heap.size w w1) (k : Turn b o w1 w2) : Turn b o w w2 :=
  ⟨k.os.trans h.os, k.tape.trans h.tape, k.output.trans h.output, Nat.le_trans h.size k.size, k.blk, fun i hi hne => (k.other i (Nat.lt_of_lt_of_le hi h.size) hne).trans (h.block i hi)⟩
theorem Turn.alloc {b : Nat} {o : Obj} {w w1 : World} (h : Turn b o w w1) (o' : Obj) : Turn b o w (w1.alloc o') := h.more (Go.Proofs.YtcppmkblllappaaDoor.more (Below.refl _ _) _)

/-- Behind a step that leaves all below B as it was. -/
theorem Turn.upto {b B : Nat} {o : Obj} {w w1 w2 : World} (h : Turn b o w w1) (k : Below B w1 w2) (hB : w.heap.size ≤ B) (hb : b < w.heap.size) : Turn b o w w2 :=
  ⟨k.os.trans h.os, k.tape.trans h.tape, k.output.trans h.output, Nat.le_trans h.size k.size, (k.block b (by omega)).trans h.blk, fun i hi hne => (k.block i (by omega)).trans (h.other i hi hne)⟩
theorem Blk.setRow {w : World} {g : Nat} {cs : Array Value} {t : TypeId} {fr : Nat × Nat} (h : Blk w g (.cells cs t fr)) (cs' : Array Value) : Blk (w.setRow g cs') g (.cells cs' t fr) := setRow_heap w g cs cs' t fr h
theorem Below.row {B g : Nat} {w0 w : World} (hb : Below B w0 w) (hBg : B ≤ g) (cs : Array Value) : Below B w0 (w.setRow g cs) := below_setRow hb hBg cs
theorem Blk.upto {w w' : World} {b B : Nat} {o : Obj} (h : Blk w b o) (k : Below B w w') (hb : b < B) : Blk w' b o := (k.block b hb).trans h
theorem below_row_grown {B : Nat} {w0 w w' : World} {e : TypeId} {size n : Nat} {v : Value} {xs : List Value} (h : Below B w0 w) (hB : B ≤ w.heap.size) (ho : w.ownsRow B e size v n xs) (hg : w.grownBy w' v.ownBlock) : Below B w0 w' :=
  h.grown hg hB (fun k hk => (ho.lt k hk.symm.symm).1)
theorem Turn.grown {b : Nat} {o : Obj} {w w' : World} (h : Turn b o w w') : w.grownBy w' (some b) := ⟨h.os, h.tape, h.output, h.size, fun k hk hne => h.other k hk (fun e => hne (by rw [e]))⟩
theorem ownsRow_turn {w w' : World} {base b size n : Nat} {e : TypeId} {v : Value} {xs : List Value} {o : Obj} (h : w.ownsRow base e size v n xs) (hT : Turn b o w w') (hb : b < base) : w'.ownsRow base e size v n xs := by
  refine h.kept hT.grown ?_
  cases hv : v.ownBlock with
  | none => exact .inl rfl
  | some k =>
    refine .inr fun e => ?_
    have := (h.lt k hv).1
    simp at e
    omega
theorem ownsRow_base {w : World} {base base' size n : Nat} {t : TypeId} {v : Value} {xs : List Value} (h : w.ownsRow base t size v n xs) (hb : base' ≤ base) : w.ownsRow base' t size v n xs := by
  obtain ⟨h1, h2⟩ := h
  refine ⟨h1, ?_⟩
  rcases h2 with h2 | ⟨g, cap, cur, hv, hg, r⟩
  · exact .inl h2
  · exact .inr ⟨g, cap, cur, hv, by omega, r⟩
theorem ownsRow_below {w w' : World} {base size n : Nat} {e : TypeId} {v : Value} {xs : List Value} (h : w.ownsRow base e size v n xs) (hb : Below w.heap.size w w') : w'.ownsRow base e size v n xs := by
  refine h.kept (row := none) ⟨hb.os, hb.tape, hb.output, hb.size, fun k hk _ => hb.block k hk⟩ ?_
  cases v.ownBlock with
  | none => exact .inl rfl
  | some k => exact .inr (by simp)
theorem retb {a b : Bool} (h : a = b) : Ending.returned (.bool a) = Ending.returned (.bool b) := by rw [h]
theorem reti {k : IntKind} {a b : Int} (h : a = b) : Ending.returned (.int k a) = .returned (.int k b) := by rw [h]

/-- The bytes of a list, as values. -/
abbrev bv (l : List Int) : List Value := l.map (Value.int .u8)
/-- Numbers that are bytes. -/
def Bytes (l : List Int) : Prop := ∀ x ∈ l, 0 ≤ x ∧ x ≤ 255
theorem Bytes.nil : Bytes [] := fun x h => by cases h
theorem Bytes.take {l : List Int} (h : Bytes l) (k : Nat) : Bytes (l.take k) := fun x hx => h x (List.mem_of_mem_take hx)
theorem Bytes.drop {l : List Int} (h : Bytes l) (k : Nat) : Bytes (l.drop k) := fun x hx => h x (List.mem_of_mem_drop hx)
theorem Bytes.append {l m : List Int} (h : Bytes l) (h2 : Bytes m) : Bytes (l ++ m) := fun x hx => by
  rcases List.mem_append.1 hx with hx | hx
  · exact h x hx
  · exact h2 x hx
theorem Bytes.at {l : List Int} (h : Bytes l) {i : Nat} (hi : i < l.length) : 0 ≤ l.getD i 0 ∧ l.getD i 0 ≤ 255 := by
  rw [List.getD_eq_getElem?_getD, List.getElem?_eq_getElem hi]
  exact h _ (List.getElem_mem hi)
/-- The slice v holds the bytes l, in a block below M. -/
def HoldsB (w : World) (M : Nat) (v : Value) (l : List Int) : Prop :=
  ∃ a cap, v = .slice a l.length cap ∧ l.length ≤ cap ∧ cap ≤ maxLen ∧ (a = none → cap = 0) ∧ (∀ x, a = some x → 0 < l.length → x.spot = none ∧ x.block < M ∧ x.block < w.heap.size) ∧
    (∀ x i, a = some x → i < l.length → w.cell? ⟨x.block, x.off + i, none⟩ = some (.int .u8 (l.getD i 0))) ∧ Bytes l
theorem HoldsB.nil (w : World) (M : Nat) : HoldsB w M (.slice none 0 0) [] :=
  ⟨none, 0, rfl, Nat.le_refl _, by unfold maxLen; omega, fun _ => rfl, (fun x h => by cases h), (fun x i h => by cases h), Bytes.nil⟩
theorem HoldsB.mono {w : World} {M M' : Nat} {v : Value} {l : List Int} (h : HoldsB w M v l) (hM : M ≤ M') : HoldsB w M' v l := by
  obtain ⟨a, cap, h1, h2, h3, h4, h5, h6, h7⟩ := h
  exact ⟨a, cap, h1, h2, h3, h4, fun x hx h0 => ⟨(h5 x hx h0).1, Nat.lt_of_lt_of_le (h5 x hx h0).2.1 hM, (h5 x hx h0).2.2⟩, h6, h7⟩
theorem HoldsB.frame {w w' : World} {M : Nat} {v : Value} {l : List Int} (h : HoldsB w M v l) (hs : w.heap.size ≤ w'.heap.size) (hf : ∀ k, k < M → k < w.heap.size → w'.heap[k]? = w.heap[k]?) : HoldsB w' M v l := by
  obtain ⟨a, cap, h1, h2, h3, h4, h5, h6, h7⟩ := h
  refine ⟨a, cap, h1, h2, h3, h4, fun x hx h0 => ⟨(h5 x hx h0).1, (h5 x hx h0).2.1, Nat.lt_of_lt_of_le (h5 x hx h0).2.2 hs⟩, fun x i hx hi => ?_, h7⟩
  exact (World.cell?_of_block (w := w) (a := ⟨x.block, x.off + i, none⟩) (hf _ (h5 x hx (by omega)).2.1 (h5 x hx (by omega)).2.2)).trans (h6 x i hx hi)
theorem HoldsB.keep {w w' : World} {M : Nat} {v : Value} {l : List Int} (h : HoldsB w M v l) (hb : Below w.heap.size w w') : HoldsB w' M v l := h.frame hb.size fun k _ hk => hb.block k hk
theorem HoldsB.turn {w w' : World} {M b : Nat} {o : Obj} {v : Value} {l : List Int} (h : HoldsB w M v l) (hb : Turn b o w w') (hM : M ≤ b) : HoldsB w' M v l := h.frame hb.size fun k hk hs => hb.other k hs (by omega)
theorem HoldsB.alloc {w : World} {M : Nat} {v : Value} {l : List Int} (h : HoldsB w M v l) (o : Obj) : HoldsB (w.alloc o) M v l := h.keep (more (Below.refl _ _) _)
theorem HoldsB.drew {w : World} {M : Nat} {v : Value} {l : List Int} (h : HoldsB w M v l) : HoldsB w.drew M v l := h
theorem HoldsB.len {w : World} {M : Nat} {v : Value} {l : List Int} (h : HoldsB w M v l) : l.length ≤ maxLen := by
  obtain ⟨a, cap, h1, h2, h3, _⟩ := h
  omega
theorem HoldsB.bytes {w : World} {M : Nat} {v : Value} {l : List Int} (h : HoldsB w M v l) : Bytes l := by
  obtain ⟨a, cap, h1, h2, h3, h4, h5, h6, h7⟩ := h
  exact h7
/-- One cell. -/
theorem HoldsB.cellAt {w : World} {M : Nat} {a : Option Addr} {n cap : Nat} {l : List Int} (h : HoldsB w M (.slice a n cap) l) {i : Nat} (hi : i < l.length) :
    ∃ b off, a = some ⟨b, off, none⟩ ∧ n = l.length ∧ w.cell? ⟨b, off + i, none⟩ = some (.int .u8 (l.getD i 0)) := by
  obtain ⟨a', cap', h1, h2, h3, h4, h5, h6, h7⟩ := h
  simp only [Value.slice.injEq] at h1
  obtain ⟨rfl, rfl, rfl⟩ := h1
  cases a with
  | none => have := h4 rfl; omega
  | some x =>
    obtain ⟨hs, _⟩ := h5 x rfl (by omega)
    obtain ⟨b, off, spot⟩ := x
    simp only at hs
    subst hs
    exact ⟨b, off, rfl, rfl, h6 _ i rfl hi⟩
theorem HoldsB.news {w : World} {M : Nat} {ad : Addr} {n cap : Nat} {l : List Int} (h : HoldsB w M (.slice (some ad) n cap) l) : ∀ j u, (bv l)[j]? = some u → w.cell? (ad.add j) = some u := by
  obtain ⟨a', cap', h1, h2, h3, h4, h5, h6, h7⟩ := h
  simp only [Value.slice.injEq] at h1
  obtain ⟨rfl, rfl, rfl⟩ := h1
  intro j u hu
  rw [List.getElem?_map] at hu
  by_cases hj : j < l.length
  · rw [List.getElem?_eq_getElem hj] at hu
    simp at hu
    have h := h6 ad j rfl hj
    obtain ⟨hs, _⟩ := h5 ad rfl (by omega)
    have e : ad.add j = ⟨ad.block, ad.off + j, none⟩ := by
      obtain ⟨b, off, spot⟩ := ad
      simp only at hs
      subst hs
      unfold Addr.add
      split <;> simp_all
    rw [e, h, ← hu, List.getD_eq_getElem?_getD, List.getElem?_eq_getElem hj]
    rfl
  · rw [List.getElem?_eq_none (by omega)] at hu
    simp at hu
theorem HoldsB.source {w : World} {M : Nat} {a : Option Addr} {n cap : Nat} {l : List Int} (h : HoldsB w M (.slice a n cap) l) (h0 : 0 < (bv l).length) : ∃ ad, a = some ad ∧ ∀ j u, (bv l)[j]? = some u → w.cell? (ad.add j) = some u := by
  cases a with
  | none =>
    obtain ⟨a', cap', h1, h2, h3, h4, h5, h6, h7⟩ := h
    simp only [Value.slice.injEq] at h1
    have := h4 h1.1.symm
    simp at h0
    omega
  | some ad => exact ⟨ad, rfl, h.news⟩
theorem bv_len (l : List Int) : (bv l).length = l.length * 1 := by simp
theorem bv_one (l : List Int) : ∀ u ∈ bv l, u.oneCell' = true := by
  intro u hu
  obtain ⟨x, _, rfl⟩ := List.mem_map.1 hu
  rfl
theorem info5 : (Tryd.prog.info? 5).map (fun i => (i.zero, i.size, i.bytes)) = some (some (.int .u8 0), 1, 1) := by kernel_rfl
theorem HoldsB.slice {w : World} {M : Nat} {v : Value} {l : List Int} (h : HoldsB w M v l) : ∃ a n cap, v = .slice a n cap ∧ n = l.length := by
  obtain ⟨a, cap, h1, _⟩ := h
  exact ⟨a, _, cap, h1, rfl⟩
/-- A row of the call's own, read as bytes. -/
theorem HoldsB.ofRow {w : World} {base : Nat} {v : Value} {l : List Int} (h7 : Bytes l) (h : w.ownsRow base 5 1 v l.length (bv l)) : HoldsB w w.heap.size v l := by
  rcases h.2 with ⟨rfl, hn⟩ | ⟨g, cap, cur, rfl, hb, hg, h1, h2, h3, h4⟩
  · have hl := List.length_eq_zero_iff.1 hn
    subst hl
    exact HoldsB.nil _ _
  · have hlt := (Array.getElem?_eq_some_iff.1 hg).1
    refine ⟨_, cap, rfl, h1, h2, (fun e => by cases e), (fun x hx _ => by cases hx; exact ⟨rfl, hlt, hlt⟩), (fun x i hx hi => ?_), h7⟩
    cases hx
    rw [cell_of_row w g (0 + i) cur 5 (0, 0) hg]
    have h5 : (bv l)[i]? = some (.int .u8 (l.getD i 0)) := by
      rw [List.getElem?_map, List.getD_eq_getElem?_getD, List.getElem?_eq_getElem hi]
      simp
    rw [← h4, List.getElem?_take, if_pos (by omega)] at h5
    simpa using h5

theorem take_getD {l : List Int} {k i : Nat} (h : i < k) : (l.take k).getD i 0 = l.getD i 0 := by
  simp only [List.getD_eq_getElem?_getD]
  rw [List.getElem?_take, if_pos h]
theorem drop_getD (l : List Int) (k i : Nat) : (l.drop k).getD i 0 = l.getD (k + i) 0 := by
  simp only [List.getD_eq_getElem?_getD, List.getElem?_drop]

theorem at22 (_w : World) (a : Option Addr) (l h m s : Nat) : sliced a l h m s = .slice (if m = l then a else a.map (·.add (l * s))) (h - l) (m - l) := rfl
theorem size5 (w : World) : (sizeOf 5).run Tryd.prog w = .ok 1 w := by kernel_rfl
/-- A fact that the walk does not read. -/
structure Kp (p : Prop) : Prop where
  out : p
end Go.Proofs.YtcppmkblllappaaDoor
