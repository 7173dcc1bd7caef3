/-
  Bytes that stand apart from a block; a copy into the bytes that wait; what a sum under way has taken in.
-/
import Derived.Test.YtpljjmdkagbjpaaDoorComp
namespace Go.Proofs.YtpljjmdkagbjpaaDoor
open Go.RowKit

/-- What slice v shows lies in a block of S. -/
def Blo (S : Nat → Prop) (v : Value) : Prop := ∀ x n cap, v = .slice (some x) n cap → 0 < n → S x.block
theorem add_block (x : Addr) (n : Nat) : (x.add n).block = x.block := by unfold Addr.add; split <;> rfl
theorem Blo.cut {S : Nat → Prop} {a : Option Addr} {n i j m cap : Nat} (h : Blo S (.slice a n cap)) (hj : j ≤ n) : Blo S (sliced a i j m 1) := by
  intro x k c he h0
  unfold sliced at he
  simp only [Value.slice.injEq] at he
  obtain ⟨h1, h2, h3⟩ := he
  split at h1
  · subst h1
    exact h x n cap rfl (by omega)
  · cases a with
    | none => simp at h1
    | some y =>
      simp only [Option.map_some, Option.some.injEq] at h1
      subst h1
      rw [add_block]
      exact h y n cap rfl (by omega)
/-- v shows the bytes l, outside of block b. -/
structure HoldsX (w : World) (b : Nat) (v : Value) (l : List Int) : Prop where
  h : HoldsB w w.heap.size v l
  x : Blo (· ≠ b) v
theorem HoldsX.keep {w w' : World} {b : Nat} {v : Value} {l : List Int} (h : HoldsX w b v l) (hb : Below w.heap.size w w') : HoldsX w' b v l := ⟨(h.h.keep hb).mono hb.size, h.x⟩
theorem HoldsX.turn {w w' : World} {b : Nat} {o : Obj} {v : Value} {l : List Int} (h : HoldsX w b v l) (hb : Turn b o w w') : HoldsX w' b v l := by
  refine ⟨?_, h.x⟩
  have hx := h.x
  obtain ⟨a, cap, h1, h2, h3, h4, h5, h6, h7⟩ := h.h
  subst h1
  have hs := hb.size
  refine ⟨a, cap, rfl, h2, h3, h4, fun x hxx h0 => ⟨(h5 x hxx h0).1, by have := (h5 x hxx h0).2.2; omega, by have := (h5 x hxx h0).2.2; omega⟩, fun x i hxx hi => ?_, h7⟩
  subst hxx
  exact (World.cell?_of_block (w := w) (a := ⟨x.block, x.off + i, none⟩) (hb.other _ (h5 x rfl (by omega)).2.2 (hx x _ _ rfl (by omega)))).trans (h6 x i rfl hi)
theorem HoldsX.slice {w : World} {b : Nat} {v : Value} {l : List Int} (h : HoldsX w b v l) : ∃ a n cap, v = .slice a n cap ∧ n = l.length := h.h.slice
set_option maxRecDepth 100000 in
theorem HoldsX.front {w : World} {b : Nat} {v : Value} {l : List Int} (h : HoldsX w b v l) {k : Nat} (hk : k ≤ l.length) :
    ∃ v', (∀ w1, (Instr.sliceAt 32 v none (some (.int .i64 k)) none).run Tryd.prog w1 = .ok v' w1) ∧ HoldsX w b v' (l.take k) := by
  obtain ⟨a, n, cap, rfl, hn⟩ := h.slice
  obtain ⟨v', h1, h2⟩ := h.h.front hk
  refine ⟨v', h1, h2, ?_⟩
  have hc : n ≤ cap := by
    obtain ⟨a', cap', e, hc, _⟩ := h.h
    simp only [Value.slice.injEq] at e
    omega
  have h3 := h1 w
  rw [run_sliceAt_slice (h := Tryd.underlying32), run_slice_h (ht := Tryd.underlying32) (h0 := by omega) (h2 := by omega), elem22, size5] at h3
  simp [Result.andThen] at h3
  rw [← h3]
  exact Blo.cut h.x (by omega)
set_option maxRecDepth 100000 in
theorem HoldsX.back {w : World} {b : Nat} {v : Value} {l : List Int} (h : HoldsX w b v l) {k : Nat} (hk : k ≤ l.length) :
    ∃ v', (∀ w1, (Instr.sliceAt 32 v (some (.int .i64 k)) none none).run Tryd.prog w1 = .ok v' w1) ∧ HoldsX w b v' (l.drop k) := by
  obtain ⟨a, n, cap, rfl, hn⟩ := h.slice
  obtain ⟨v', h1, h2⟩ := h.h.back hk
  refine ⟨v', h1, h2, ?_⟩
  have h3 := h1 w
  rw [run_sliceAt_slice (h := Tryd.underlying32), run_slice_l (ht := Tryd.underlying32) (h0 := by omega) (h1 := by omega), elem22, size5] at h3
  simp [Result.andThen] at h3
  rw [← h3]
  exact Blo.cut h.x (by omega)
theorem Turn.row {b : Nat} {cs : Array Value} {t : TypeId} {fr : Nat × Nat} {w w' : World} (h : Turn b (.cells cs t fr) w w') (cs' : Array Value) : Turn b (.cells cs' t fr) w (w'.setRow b cs') :=
  ⟨h.os, h.tape, h.output, by simpa [World.setRow] using h.size, h.blk.setRow cs', fun k hk hne => by rw [setRow_other w' b k cs' hne]; exact h.other k hk hne⟩
/-- copy into a block that was there. -/
theorem wpList_copy_turn {P : Program} {w : World} {ops : Array Oper} {rest : List Oper} {o : Oper} {a : Act} {Q : Exit → Act → World → Prop} (hgd : o.guard = none) (d s : Operand) (dT sT : TypeId)
    (ho : o.op = .call { callee := .builtin .copy, args := #[d, s], argTypes := #[dT, sT] }) (elem : TypeId) (hu : P.underlying dT = some (.slice elem)) (hsz : (P.info? elem).map (·.size) = some 1)
    (dp sp : Option Addr) (dLen dCap sLen sCap : Nat) (hd : a.eval d = .slice dp dLen dCap) (hs : a.eval s = .slice sp sLen sCap)
    (g off : Nat) (cur : List Value) (t : TypeId) (w0 : World) (hT : Turn g (.cells cur.toArray t) w0 w) (cs : List Value) (hn : cs.length = Nat.min sLen dLen)
    (hpos : 0 < cs.length → dp = some ⟨g, off, none⟩ ∧ ∃ ad, sp = some ad ∧ ∀ j v, cs[j]? = some v → w.cell? (ad.add j) = some v)
    (hfit : off + cs.length ≤ cur.length) (h1 : ∀ v ∈ cs, v.oneCell' = true)
    (h : ∀ w', Hid (Turn g (.cells (splice cur off cs).toArray t) w0 w') → wpList P ops Q rest (a.put o.dst (goInt cs.length)) w') :
    wpList P ops Q (o :: rest) a w := by
  by_cases h0 : cs.length = 0
  · obtain rfl : cs = [] := List.eq_nil_of_length_eq_zero h0
    refine wpList_copy_nothing hgd d s dT sT ho elem hu hsz dp sp dLen dCap sLen sCap hd hs (by simpa using hn.symm) ?_
    exact h w (show Turn _ _ _ _ by simpa [splice] using hT)
  · obtain ⟨rfl, ad, rfl, hsrc⟩ := hpos (by omega)
    refine wpList_copy_own hgd d s dT sT ho elem hu hsz g off dLen dCap ad sLen sCap hd hs cur.toArray t hT.blk cs hn hsrc (by simpa using hfit) h1 ?_
    exact h _ (show Turn _ _ _ _ by simpa [splice] using hT.row _)
theorem splice_rest {sl rest cs : List Int} {n : Int} {off : Nat} (hs : sl.length = 8) (h : off + cs.length ≤ rest.length) : splice (hashCells sl rest n) (8 + off) (kv .u8 cs) = hashCells sl (splice rest off cs) n := by
  unfold splice hashCells
  rw [List.take_append, List.drop_append]
  have e1 : (kv .u32 sl).length = 8 := by simp [hs]
  rw [e1, List.take_of_length_le (by simp; omega), List.drop_eq_nil_of_le (by simp; omega)]
  rw [show 8 + off - 8 = off by omega, show 8 + off + (kv .u8 cs).length - 8 = off + cs.length by simp; omega]
  rw [List.take_append_of_le_length (by simp; omega), List.drop_append_of_le_length (by simp; omega)]
  simp [List.map_take, List.map_drop]
theorem splice_len {l cs : List Int} {off : Nat} (h : off + cs.length ≤ l.length) : (splice l off cs).length = l.length := length_splice l off cs h
theorem splice_bytes {l cs : List Int} {off : Nat} (h : Bytes l) (h2 : Bytes cs) : Bytes (splice l off cs) := (h.take _).append (h2.append (h.drop _))
theorem splice_take {l cs : List Int} {off : Nat} (h : off ≤ l.length) : (splice l off cs).take (off + cs.length) = l.take off ++ cs := by
  unfold splice
  rw [← List.append_assoc, List.take_append_of_le_length (by simp; omega), List.take_of_length_le (by simp; omega)]
/-- Block b is a sum under way that took l in. -/
def HashIs (w : World) (b : Nat) (l : List Int) : Prop :=
  ∃ rest, rest.length = 64 ∧ Bytes rest ∧ rest.take (l.length % 64) = l.drop (64 * (l.length / 64)) ∧ Blk w b (hashObj (absorb l (l.length / 64)).list rest l.length)
/-- Block b has become a sum under way that took l in; all else is as it was. -/
def HashTurn (b : Nat) (l : List Int) (w w' : World) : Prop :=
  ∃ rest, rest.length = 64 ∧ Bytes rest ∧ rest.take (l.length % 64) = l.drop (64 * (l.length / 64)) ∧ Turn b (hashObj (absorb l (l.length / 64)).list rest l.length) w w'
theorem HashTurn.is {b : Nat} {l : List Int} {w w' : World} (h : HashTurn b l w w') : HashIs w' b l := by
  obtain ⟨rest, h1, h2, h3, h4⟩ := h
  exact ⟨rest, h1, h2, h3, h4.blk⟩
theorem HashIs.keep {w w' : World} {b : Nat} {l : List Int} (h : HashIs w b l) (hb : Below w.heap.size w w') : HashIs w' b l := by
  obtain ⟨rest, h1, h2, h3, h4⟩ := h
  exact ⟨rest, h1, h2, h3, h4.keep hb⟩
theorem HashIs.lt {w : World} {b : Nat} {l : List Int} (h : HashIs w b l) : b < w.heap.size := by
  obtain ⟨rest, h1, h2, h3, h4⟩ := h
  exact h4.lt
set_option maxRecDepth 100000 in
theorem slice75 (b k : Nat) (h : k < 64) (w : World) : (Instr.sliceAt 143 (.pointer (some ⟨b, 8, none⟩)) (some (.int .i64 k)) none none).run Tryd.prog w = .ok (.slice (some ⟨b, 8 + k, none⟩) (64 - k) (64 - k)) w := by
  have hl : Tryd.prog.arrayLen 143 = 64 := by kernel_rfl
  have he : Tryd.prog.elem 143 = 5 := by kernel_rfl
  rw [run_sliceAt_array_l (ht := Tryd.underlying143) (h0 := by omega) (h1 := by rw [hl]; omega), hl, he, size5]
  simp only [Result.andThen, slicedAt, Int.toNat_natCast, Nat.mul_one]
  rw [if_neg (by omega)]
  have e : (⟨b, 8, none⟩ : Addr).add k = ⟨b, 8 + k, none⟩ := by unfold Addr.add; split <;> simp_all
  rw [e]
set_option maxRecDepth 100000 in
theorem slice75_all (b : Nat) (w : World) : (Instr.sliceAt 143 (.pointer (some ⟨b, 8, none⟩)) none none none).run Tryd.prog w = .ok (.slice (some ⟨b, 8, none⟩) 64 64) w := by
  have hl : Tryd.prog.arrayLen 143 = 64 := by kernel_rfl
  have he : Tryd.prog.elem 143 = 5 := by kernel_rfl
  rw [run_sliceAt_array_all (ht := Tryd.underlying143), hl, he, size5]
  rfl
end Go.Proofs.YtpljjmdkagbjpaaDoor
