/-
  What fields are laid: their bytes, and whether one is too great.
-/
import Derived.Test.YtgpjffchpppceaaOutH
import Derived.Test.YtgpjffchpppceaaFits
namespace Go.Proofs.Ytgpjffchpppceaa
open Go.RowKit

/-- An item, as it came in. -/
structure It where
  kind : Int
  num : Int
  p : List Int
  v3 : Value
  v4 : Value
  n3 : Nat
  S : List Int
  B : List Int
  most : Int
abbrev ItemD (W : World) (C : List Value) (d : It) : Prop := ItemE W C d.kind d.num d.p d.v3 d.v4 d.n3 d.S d.B d.most
/-- Its bytes. -/
def enc (d : It) : List Int :=
  if d.kind = 0 then digs d.num 1 else if d.kind = 1 then digs d.num 2 else if d.kind = 2 then digs d.num 4 else if d.kind = 3 then digs d.num 8
  else if d.kind = 4 then d.p else if d.kind = 5 then digs d.n3 1 ++ d.S else if d.kind = 6 then digs d.B.length 2 ++ d.B else []
/-- Whether it is too great. -/
def bad (d : It) : Bool :=
  if d.kind = 0 then decide ((256 : Int) ^ 1 ≤ d.num) else if d.kind = 1 then decide ((256 : Int) ^ 2 ≤ d.num) else if d.kind = 2 then decide ((256 : Int) ^ 4 ≤ d.num) else if d.kind = 3 then decide ((256 : Int) ^ 8 ≤ d.num)
  else if d.kind = 4 then false else if d.kind = 5 then decide ((256 : Int) ^ 1 ≤ d.n3) else if d.kind = 6 then decide (4096 < d.B.length) else false
def encU (D : Nat → It) : Nat → List Int
  | 0 => []
  | i + 1 => encU D i ++ enc (D i)
def badU (D : Nat → It) : Nat → Bool
  | 0 => false
  | i + 1 => badU D i || bad (D i)
def ItOk (d : It) : Prop := d.p.length = 16 ∧ d.S.length = d.n3 * 16 ∧ d.n3 ≤ 300 ∧ d.B.length ≤ 5000 ∧ 0 ≤ d.num ∧ d.num < 18446744073709551616
theorem HoldsB.other {w w' : World} {M : Nat} {v : Value} {l : List Int} (h : HoldsB w M v l) (hs : w.heap.size ≤ w'.heap.size) (hf : ∀ g, v.ownBlock = some g → g < w.heap.size → w'.heap[g]? = w.heap[g]?) : HoldsB w' M v l := by
  obtain ⟨a, cap, rfl, h2, h3, h4, h5, h6, h7⟩ := h
  refine ⟨a, cap, rfl, h2, h3, h4, fun x hx h0 => ⟨(h5 x hx h0).1, (h5 x hx h0).2.1, Nat.lt_of_lt_of_le (h5 x hx h0).2.2 hs⟩, fun x i hx hi => ?_, h7⟩
  refine (World.cell?_of_block (w := w) (a := ⟨x.block, x.off + i, none⟩) (hf _ (by rw [hx]; rfl) (h5 x hx (by omega)).2.2)).trans (h6 x i hx hi)
/-- Behind i items: the program's Out in block O, the document's in block K. -/
structure LaidS (w : World) (O K : Nat) (D : Nat → It) (i : Nat) (vm : Value) (f : Bool) (wr : World) (vr : Value) (lP lD : List Int) : Prop where
  out : OutIs wr O vr lP f
  mb : Blk wr K (.cells #[vm, .bool f] 28)
  same : f = false → lP = encU D i ∧ lD = encU D i
  lenP : lP.length ≤ i * 6000
  lenD : lD.length ≤ i * 6000
  ref : HoldsB wr wr.heap.size vm lD
  apart : ∀ g, vm.ownBlock = some g → K < g ∧ g < wr.heap.size ∧ vr.ownBlock ≠ some g
  own : ∀ g, vr.ownBlock = some g → K < g
  flag : f = badU D i
  below : Below w.heap.size w wr
theorem LaidS.keep {w : World} {O K : Nat} {D : Nat → It} {i : Nat} {vm : Value} {f : Bool} {wr w1 : World} {vr : Value} {lP lD : List Int} (h : LaidS w O K D i vm f wr vr lP lD) (hb : Below wr.heap.size wr w1) : LaidS w O K D i vm f w1 vr lP lD :=
  ⟨h.out.keep hb, h.mb.keep hb, h.same, h.lenP, h.lenD, (h.ref.keep hb).mono hb.size, fun g hg => ⟨(h.apart g hg).1, Nat.lt_of_lt_of_le (h.apart g hg).2.1 hb.size, (h.apart g hg).2.2⟩, h.own, h.flag, h.below.trans (hb.mono h.below.size)⟩
/-- What stands behind the program's step, ahead of the document's. -/
structure MidS (w : World) (O K : Nat) (vm : Value) (f : Bool) (lD : List Int) (w1 w2 : World) (v' : Value) (l' : List Int) (f' : Bool) : Prop where
  out : OutIs w2 O v' l' f'
  mb : Blk w2 K (.cells #[vm, .bool f] 28)
  ref : HoldsB w2 w2.heap.size vm lD
  apart : ∀ g, vm.ownBlock = some g → K < g ∧ g < w2.heap.size ∧ v'.ownBlock ≠ some g
  own : ∀ g, v'.ownBlock = some g → K < g
  below : Below w.heap.size w w2
  size : w1.heap.size ≤ w2.heap.size
theorem LaidS.mid {w : World} {O K : Nat} {D : Nat → It} {i : Nat} {vm : Value} {f f' : Bool} {w1 w2 : World} {vr v' : Value} {lP lD l' : List Int} (h : LaidS w O K D i vm f w1 vr lP lD) (hO : w.heap.size ≤ O) (hK : O < K) (k : OutStep O vr v' l' f' w1 w2) : MidS w O K vm f lD w1 w2 v' l' f' := by
  have hm := h.mb.lt
  refine ⟨k.is, k.keep h.mb (by omega) (fun e => by have := h.own K e; omega), (h.ref.other k.size fun g hg hl => k.other g hl (by have := (h.apart g hg).1; omega) (h.apart g hg).2.2).mono k.size, fun g hg => ⟨(h.apart g hg).1, Nat.lt_of_lt_of_le (h.apart g hg).2.1 k.size, fun e => ?_⟩, fun g hg => ?_, k.belowNew h.below hO (fun g hg => by have := (h.out.row.lt g hg).1; omega) h.below.size, k.size⟩
  · rcases k.own g e with h1 | h1
    · exact (h.apart g hg).2.2 h1
    · have := (h.apart g hg).2.1; omega
  · rcases k.own g hg with h1 | h1
    · exact h.own g h1
    · omega
theorem MidS.keep {w : World} {O K : Nat} {vm : Value} {f f' : Bool} {lD l' : List Int} {w1 w2 w3 : World} {v' : Value} (h : MidS w O K vm f lD w1 w2 v' l' f') (hb : Below w2.heap.size w2 w3) : MidS w O K vm f lD w1 w3 v' l' f' :=
  ⟨h.out.keep hb, h.mb.keep hb, (h.ref.keep hb).mono hb.size, fun g hg => ⟨(h.apart g hg).1, Nat.lt_of_lt_of_le (h.apart g hg).2.1 hb.size, (h.apart g hg).2.2⟩, h.own, h.below.trans (hb.mono h.below.size), Nat.le_trans h.size hb.size⟩
theorem MidS.done {w : World} {O K : Nat} {D : Nat → It} {i : Nat} {vm vm' : Value} {f f' : Bool} {w0 w1 w2 w3 w4 : World} {vr v' : Value} {lP lD l' m' : List Int} (h : MidS w O K vm f lD w1 w2 v' l' f') (h0 : LaidS w O K D i vm f w0 vr lP lD) (hO : w.heap.size ≤ O) (hK : O < K)
    (hm : HoldsB w3 w3.heap.size vm' m') (hv : vm' = vm ∨ w3.ownsRow w2.heap.size 5 1 vm' m'.length (bv m')) (hb : Below w2.heap.size w2 w3) (hT : Turn K (.cells #[vm', .bool f'] 28) w3 w4)
    (hf : f' = (f || bad (D i))) (hl : f' = false → l' = lP ++ enc (D i) ∧ m' = lD ++ enc (D i)) (hlp : l'.length ≤ lP.length + 6000) (hlm : m'.length ≤ lD.length + 6000) : LaidS w O K D (i + 1) vm' f' w4 v' l' m' := by
  have hlt : ∀ g, v'.ownBlock = some g → g < w2.heap.size := fun g hg => (h.out.row.lt g hg).2
  have hOlt := h.out.blk.lt
  have hKlt := h.mb.lt
  have hw := h.below.size
  have hap : ∀ g, vm'.ownBlock = some g → K < g ∧ g < w3.heap.size ∧ v'.ownBlock ≠ some g := fun g hg => by
    rcases hv with rfl | hrow
    · have := h.apart g hg
      exact ⟨this.1, Nat.lt_of_lt_of_le this.2.1 hb.size, this.2.2⟩
    · have := hrow.lt g hg
      exact ⟨by omega, this.2, fun e => by have := hlt g e; omega⟩
  have ho := h.out.keep hb
  refine ⟨⟨hT.keep ho.blk (by omega), ho.row.kept hT.grown (.inr fun e => by have := h.own K e; omega), ho.bytes⟩, hT.blk, fun e => ?_, by have := h0.lenP; omega, by have := h0.lenD; omega, (hm.other hT.size fun g hg hl => hT.other g hl (by have := (hap g hg).1; omega)).mono hT.size, fun g hg => ?_, h.own, by rw [hf, h0.flag]; rfl, (h.below.trans (hb.mono hw)).trans (hT.below (by omega) (by have := hb.size; omega))⟩
  · have e0 : f = false := by rw [hf] at e; simp at e; exact e.1
    have k := h0.same e0
    have k2 := hl e
    rw [k2.1, k2.2, k.1, k.2]
    exact ⟨rfl, rfl⟩
  · have := hap g hg
    exact ⟨this.1, Nat.lt_of_lt_of_le this.2.1 hT.size, this.2.2⟩
theorem LaidS.start {w : World} {D : Nat → It} : LaidS w w.heap.size (w.heap.size + 1) D 0 (.slice none 0 0) false ((w.alloc (outObj (.slice none 0 0) false)).alloc (.cells #[.slice none 0 0, .bool false] 28)) (.slice none 0 0) [] [] :=
  ⟨(OutIs.laid w).keep (more (Below.refl _ _) _), Blk.newAt _ (by simp), fun _ => ⟨rfl, rfl⟩, Nat.zero_le _, Nat.zero_le _, HoldsB.nil _ _, fun g hg => by simp [Value.ownBlock] at hg, fun g hg => by simp [Value.ownBlock] at hg, rfl, more (more (Below.refl _ _) _) _⟩
theorem ItemE.keep {W W' : World} {C : List Value} {kind num : Int} {p : List Int} {v3 v4 : Value} {n3 : Nat} {S B : List Int} {most : Int} (h : ItemE W C kind num p v3 v4 n3 S B most) (hb : Below W.heap.size W W') : ItemE W' C kind num p v3 v4 n3 S B most :=
  ⟨h.eq, h.len, h.bytes, h.n0, h.n1, h.s.keep hb, (h.b.keep hb).mono hb.size⟩
theorem IsFull.keep {W W' : World} {a : Option Addr} {len : Nat} {C : Nat → List Value} (h : IsFull W a len C) (hb : Below W.heap.size W W') : IsFull W' a len C := by
  refine ⟨h.1, fun h0 => ?_⟩
  obtain ⟨b, off, e, hbl, hc⟩ := h.2 h0
  refine ⟨b, off, e, Nat.lt_of_lt_of_le hbl hb.size, fun i hi => ⟨range_below (hc i hi).1 hb hbl, ?_⟩⟩
  obtain ⟨kind, num, p, v3, v4, n3, S, Bb, most, hI⟩ := (hc i hi).2
  exact ⟨kind, num, p, v3, v4, n3, S, Bb, most, hI.keep hb⟩
theorem full_items {W : World} {len : Nat} {C : Nat → List Value} (h : ∀ i, i < len → ∃ kind num p v3 v4 n3 S Bb most, ItemE W (C i) kind num p v3 v4 n3 S Bb most ∧ n3 ≤ 300 ∧ Bb.length ≤ 5000) : ∃ D : Nat → It, ∀ i, i < len → ItemD W (C i) (D i) ∧ ItOk (D i) := by
  have each : ∀ i, i < len → ∃ d : It, ItemD W (C i) d ∧ ItOk d := fun i hi => by
    obtain ⟨kind, num, p, v3, v4, n3, S, Bb, most, hI, h1, h2⟩ := h i hi
    refine ⟨⟨kind, num, p, v3, v4, n3, S, Bb, most⟩, hI, hI.len, ?_, h1, h2, hI.n0, hI.n1⟩
    obtain ⟨_, _, _, hl, _⟩ := hI.s
    exact hl
  refine ⟨fun i => if h : i < len then Classical.choose (each i h) else ⟨0, 0, [], .bool false, .bool false, 0, [], [], 0⟩, fun i hi => ?_⟩
  simp only [hi, dif_pos]
  exact Classical.choose_spec (each i hi)
theorem numL_ok {l : List Int} {f : Bool} {n : Int} {k : Nat} (h : numF f n k = false) : numL l f n k = l ++ digs n k ∧ (if (256 : Int) ^ k ≤ n then l else l ++ digs n k) = l ++ digs n k := by
  unfold numF at h
  simp only [Bool.or_eq_false_iff, decide_eq_false_iff_not] at h
  unfold numL
  rw [if_neg h.2, if_neg h.2, h.1]
  exact ⟨rfl, rfl⟩
theorem dnum_len (l : List Int) (n : Int) (k : Nat) : (if (256 : Int) ^ k ≤ n then l else l ++ digs n k).length ≤ l.length + k := by
  split
  · omega
  · rw [List.length_append, digs_len]; omega
end Go.Proofs.Ytgpjffchpppceaa
