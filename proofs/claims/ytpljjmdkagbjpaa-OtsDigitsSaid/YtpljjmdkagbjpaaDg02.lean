/-
  The words of a block: sha.schedule.
  A sum that is under way, as it stands in memory; the constants; (*sha.Hash).compress.
  (*sha.Hash).compress: one block taken into the state.
  Bytes that stand apart from a block; a copy into the bytes that wait; what a sum under way has taken in.
  sha.New.
  (*sha.Hash).Write.
  How many blocks bytes take: sha.Blocks and the document's.
  (*sha.Hash).end: what stands behind the last byte is taken in. (*sha.Hash).Blocks.
  The document's Pad.
  A row of rows of bytes that came in.
  Rows and hashes behind what leaves all below as it was; append to a literal.
  (*sha.Hash).Sum and sha.Sum.
  (Nothing of the examples is wanted here.)
  The laws' awake: the standard's example.
  Tags: plain lists; mac.keyBlock, mac.overlaid, mac.sum.
  mac.sum, mac.keyBlock.
  mac.keyBlock.
  mac.Mac.
-/
import Derived.Test.YtpljjmdkagbjpaaDg01
import Derived.StillTailTactics
import Derived.BigRegion
import Derived.Laws.OwnMore
import Derived.Deep.MidRow
import Derived.Deep.RegionLaw
namespace Go.Proofs.Ytpljjmdkagbjpaa
open Go.RowKit

theorem HoldsB.four {w : World} {M : Nat} {v : Value} {l : List Int} (h : HoldsB w M v l) (hl : l.length = 4) :
    ∃ b off cap x0 x1 x2 x3, v = .slice (some ⟨b, off, none⟩) 4 cap ∧ b < w.heap.size ∧ l = [x0, x1, x2, x3] ∧ w.cell? ⟨b, off, none⟩ = some (.int .u8 x0) ∧ w.cell? ⟨b, off + 1, none⟩ = some (.int .u8 x1) ∧
      w.cell? ⟨b, off + 2, none⟩ = some (.int .u8 x2) ∧ w.cell? ⟨b, off + 3, none⟩ = some (.int .u8 x3) ∧ (0 ≤ x0 ∧ x0 ≤ 255) ∧ (0 ≤ x1 ∧ x1 ≤ 255) ∧ (0 ≤ x2 ∧ x2 ≤ 255) ∧ (0 ≤ x3 ∧ x3 ≤ 255) := by
  obtain ⟨b, off, cap, rfl, _, _, _, hb, hc⟩ := h.open (by omega)
  have hy := h.bytes
  match l, hl with
  | [x0, x1, x2, x3], _ =>
    exact ⟨b, off, cap, x0, x1, x2, x3, rfl, hb, rfl, hc 0 (by simp), hc 1 (by simp), hc 2 (by simp), hc 3 (by simp), hy x0 (by simp), hy x1 (by simp), hy x2 (by simp), hy x3 (by simp)⟩
theorem word_of {l : List Int} {t : Nat} {x0 x1 x2 x3 : Int} (h : (l.drop (4 * t)).take (4 * t + 4 - 4 * t) = [x0, x1, x2, x3]) : word l t = ((x0 * 256 + x1) * 256 + x2) * 256 + x3 := by
  have g : ∀ i, i < 4 → l.getD (4 * t + i) 0 = [x0, x1, x2, x3].getD i 0 := fun i hi => by
    rw [← h, take_getD (by omega), drop_getD]
  have h0 := g 0 (by omega)
  have h1 := g 1 (by omega)
  have h2 := g 2 (by omega)
  have h3 := g 3 (by omega)
  simp only [Nat.add_zero, List.getD_cons_zero, List.getD_cons_succ] at h0 h1 h2 h3
  unfold word
  rw [h0, h1, h2, h3]
theorem or32 (a b : Nat) (i : Nat) (ha : a % 2 ^ i = 0) (h2 : a < 4294967296) (hb : b < 2 ^ i) (h3 : b < 4294967296) : bits .or .u32 (a : Int) (b : Int) = ((a + b : Nat) : Int) := by
  rw [u32_or_nat a b h2 h3, nat_join i a b ha hb]
theorem word_or (x0 x1 x2 x3 : Int) (h0 : 0 ≤ x0 ∧ x0 ≤ 255) (h1 : 0 ≤ x1 ∧ x1 ≤ 255) (h2 : 0 ≤ x2 ∧ x2 ≤ 255) (h3 : 0 ≤ x3 ∧ x3 ≤ 255) :
    bits .or .u32 (bits .or .u32 (bits .or .u32 (x0 * 16777216) (x1 * 65536)) (x2 * 256)) x3 = ((x0 * 256 + x1) * 256 + x2) * 256 + x3 := by
  obtain ⟨a0, rfl⟩ : ∃ n : Nat, x0 = n := ⟨x0.toNat, by omega⟩
  obtain ⟨a1, rfl⟩ : ∃ n : Nat, x1 = n := ⟨x1.toNat, by omega⟩
  obtain ⟨a2, rfl⟩ : ∃ n : Nat, x2 = n := ⟨x2.toNat, by omega⟩
  obtain ⟨a3, rfl⟩ : ∃ n : Nat, x3 = n := ⟨x3.toNat, by omega⟩
  rw [show (a0 : Int) * 16777216 = ((a0 * 16777216 : Nat) : Int) by omega, show (a1 : Int) * 65536 = ((a1 * 65536 : Nat) : Int) by omega, show (a2 : Int) * 256 = ((a2 * 256 : Nat) : Int) by omega]
  rw [or32 _ _ 24 (by omega) (by omega) (by omega) (by omega), or32 _ _ 16 (by omega) (by omega) (by omega) (by omega), or32 _ _ 8 (by omega) (by omega) (by omega) (by omega)]
  omega

theorem words_step (l : List Int) (k : Nat) : (List.range (k + 1)).map (word l) = (List.range k).map (word l) ++ [word l k] := by rw [List.range_succ, List.map_append]; rfl
theorem zeros64 : (kv .u32 (fill 64 ((List.range 0).map (word [])))).toArray = (kv .u32 (fill 64 [])).toArray := rfl
theorem info70 : (Try.prog.info? 56).map (·.size) = some 64 := by kernel_rfl
theorem cells70 {l : List Int} (h : l.length = 64) : (Try.prog.info? 56).map (·.size) = some (kv .u32 l).toArray.size := by rw [info70, kv_size, h]
end Go.Proofs.Ytpljjmdkagbjpaa

namespace Go.Proofs.Ytpljjmdkagbjpaa
open Go.RowKit

/-- The package's variable holds the standard's constants. -/
def KonIs (w : World) : Prop := ∀ i, i < 64 → w.cell? ⟨0, i, none⟩ = some (.int .u32 (kon.getD i 0))
theorem KonIs.pos {w : World} (h : KonIs w) : 0 < w.heap.size := World.block_lt_of_cell? w _ (h 0 (by omega))
theorem KonIs.frame {w w' : World} (h : KonIs w) (hb : w'.heap[0]? = w.heap[0]?) : KonIs w' := fun i hi => (World.cell?_of_block (w := w) (a := ⟨0, i, none⟩) hb).trans (h i hi)
theorem KonIs.keep {w w' : World} (h : KonIs w) (hb : Below w.heap.size w w') : KonIs w' := h.frame (hb.block 0 h.pos)
theorem KonIs.turn {w w' : World} {b : Nat} {o : Obj} (h : KonIs w) (hb : Turn b o w w') (h0 : 0 < b) : KonIs w' := h.frame (hb.other 0 h.pos (by omega))
/-- The cells of a sum under way: the state's numbers, the bytes that wait, how many were taken. -/
def hashCells (sl rest : List Int) (n : Int) : List Value := kv .u32 sl ++ (kv .u8 rest ++ [.int .i64 n])
abbrev hashObj (sl rest : List Int) (n : Int) : Obj := .cells (hashCells sl rest n).toArray 145
theorem hash_state {sl rest : List Int} {n : Int} {i : Nat} (h : i < sl.length) : (hashCells sl rest n).toArray[i]? = some (.int .u32 (sl.getD i 0)) := by
  simp [hashCells, List.getElem?_append_left, h, List.getD_eq_getElem?_getD]
theorem hash_rest {sl rest : List Int} {n : Int} {i : Nat} (hs : sl.length = 8) (h : i < rest.length) : (hashCells sl rest n).toArray[8 + i]? = some (.int .u8 (rest.getD i 0)) := by
  simp only [hashCells, List.getElem?_toArray]
  rw [List.getElem?_append_right (by simp; omega), List.length_map, hs, Nat.add_sub_cancel_left, List.getElem?_append_left (by simpa using h)]
  simp [h, List.getD_eq_getElem?_getD]
theorem hash_taken {sl rest : List Int} {n : Int} (hs : sl.length = 8) (hr : rest.length = 64) : (hashCells sl rest n).toArray[72]? = some (.int .i64 n) := by
  simp only [hashCells, List.getElem?_toArray]
  rw [List.getElem?_append_right (by simp; omega), List.length_map, hs, List.getElem?_append_right (by simp; omega), List.length_map, hr]
  rfl
theorem hash_set {sl rest : List Int} {n : Int} {i : Nat} (h : i < sl.length) (x : Int) : (hashCells sl rest n).toArray.setIfInBounds i (.int .u32 x) = (hashCells (sl.set i x) rest n).toArray := by
  simp only [hashCells, List.setIfInBounds_toArray]
  congr 1
  rw [List.set_append_left _ _ (by simpa using h)]
  unfold kv
  rw [List.map_set]
theorem hash_size {sl rest : List Int} {n : Int} (hs : sl.length = 8) (hr : rest.length = 64) : (hashCells sl rest n).toArray.size = 73 := by
  simp [hashCells, hs, hr]
theorem list_len (s : St) : s.list.length = 8 := rfl
/-- Of two states the first k numbers of the one, the others of the other. -/
def mix (x y : St) (k : Nat) : List Int := y.list.take k ++ x.list.drop k
theorem mix_len (x y : St) (k : Nat) (h : k ≤ 8) : (mix x y k).length = 8 := by simp [mix, list_len]; omega
theorem mix_zero (x y : St) : mix x y 0 = x.list := by simp [mix]
theorem mix_full (x y : St) : mix x y 8 = y.list := by simp [mix, St.list]
theorem mix_get (x y : St) (k : Nat) (h : k < 8) : (mix x y k).getD k 0 = x.list.getD k 0 := by
  match k, h with
  | 0, _ => rfl
  | 1, _ => rfl
  | 2, _ => rfl
  | 3, _ => rfl
  | 4, _ => rfl
  | 5, _ => rfl
  | 6, _ => rfl
  | 7, _ => rfl
theorem mix_set (x y : St) (k : Nat) (h : k < 8) (v : Int) (hv : v = y.list.getD k 0) : (mix x y k).set k v = mix x y (k + 1) := by
  subst hv
  match k, h with
  | 0, _ => rfl
  | 1, _ => rfl
  | 2, _ => rfl
  | 3, _ => rfl
  | 4, _ => rfl
  | 5, _ => rfl
  | 6, _ => rfl
  | 7, _ => rfl
theorem add_get (x y : St) (k : Nat) (h : k < 8) : (x.add y).list.getD k 0 = (x.list.getD k 0 + y.list.getD k 0) % 4294967296 := by
  match k, h with
  | 0, _ => exact w32_mod _
  | 1, _ => exact w32_mod _
  | 2, _ => exact w32_mod _
  | 3, _ => exact w32_mod _
  | 4, _ => exact w32_mod _
  | 5, _ => exact w32_mod _
  | 6, _ => exact w32_mod _
  | 7, _ => exact w32_mod _
theorem index68 (x : St) (k : Nat) (h : k < 8) (w : World) :
    (Instr.index 54 (.agg #[.int .u32 x.a, .int .u32 x.b, .int .u32 x.c, .int .u32 x.d, .int .u32 x.e, .int .u32 x.f, .int .u32 x.g, .int .u32 x.h]) (.int .i64 k)).run Try.prog w = .ok (.int .u32 (x.list.getD k 0)) w := by
  have i0 : ∀ a b c d e f g h : Int, (Instr.index 54 (.agg #[.int .u32 a, .int .u32 b, .int .u32 c, .int .u32 d, .int .u32 e, .int .u32 f, .int .u32 g, .int .u32 h]) (.int .i64 0)).run Try.prog w = .ok (.int .u32 a) w := fun _ _ _ _ _ _ _ _ => by kernel_rfl
  have i1 : ∀ a b c d e f g h : Int, (Instr.index 54 (.agg #[.int .u32 a, .int .u32 b, .int .u32 c, .int .u32 d, .int .u32 e, .int .u32 f, .int .u32 g, .int .u32 h]) (.int .i64 1)).run Try.prog w = .ok (.int .u32 b) w := fun _ _ _ _ _ _ _ _ => by kernel_rfl
  have i2 : ∀ a b c d e f g h : Int, (Instr.index 54 (.agg #[.int .u32 a, .int .u32 b, .int .u32 c, .int .u32 d, .int .u32 e, .int .u32 f, .int .u32 g, .int .u32 h]) (.int .i64 2)).run Try.prog w = .ok (.int .u32 c) w := fun _ _ _ _ _ _ _ _ => by kernel_rfl
  have i3 : ∀ a b c d e f g h : Int, (Instr.index 54 (.agg #[.int .u32 a, .int .u32 b, .int .u32 c, .int .u32 d, .int .u32 e, .int .u32 f, .int .u32 g, .int .u32 h]) (.int .i64 3)).run Try.prog w = .ok (.int .u32 d) w := fun _ _ _ _ _ _ _ _ => by kernel_rfl
  have i4 : ∀ a b c d e f g h : Int, (Instr.index 54 (.agg #[.int .u32 a, .int .u32 b, .int .u32 c, .int .u32 d, .int .u32 e, .int .u32 f, .int .u32 g, .int .u32 h]) (.int .i64 4)).run Try.prog w = .ok (.int .u32 e) w := fun _ _ _ _ _ _ _ _ => by kernel_rfl
  have i5 : ∀ a b c d e f g h : Int, (Instr.index 54 (.agg #[.int .u32 a, .int .u32 b, .int .u32 c, .int .u32 d, .int .u32 e, .int .u32 f, .int .u32 g, .int .u32 h]) (.int .i64 5)).run Try.prog w = .ok (.int .u32 f) w := fun _ _ _ _ _ _ _ _ => by kernel_rfl
  have i6 : ∀ a b c d e f g h : Int, (Instr.index 54 (.agg #[.int .u32 a, .int .u32 b, .int .u32 c, .int .u32 d, .int .u32 e, .int .u32 f, .int .u32 g, .int .u32 h]) (.int .i64 6)).run Try.prog w = .ok (.int .u32 g) w := fun _ _ _ _ _ _ _ _ => by kernel_rfl
  have i7 : ∀ a b c d e f g h : Int, (Instr.index 54 (.agg #[.int .u32 a, .int .u32 b, .int .u32 c, .int .u32 d, .int .u32 e, .int .u32 f, .int .u32 g, .int .u32 h]) (.int .i64 7)).run Try.prog w = .ok (.int .u32 h) w := fun _ _ _ _ _ _ _ _ => by kernel_rfl
  match k, h with
  | 0, _ => exact i0 ..
  | 1, _ => exact i1 ..
  | 2, _ => exact i2 ..
  | 3, _ => exact i3 ..
  | 4, _ => exact i4 ..
  | 5, _ => exact i5 ..
  | 6, _ => exact i6 ..
  | 7, _ => exact i7 ..
end Go.Proofs.Ytpljjmdkagbjpaa

namespace Go.Proofs.Ytpljjmdkagbjpaa
open Go.RowKit

theorem rnds_succ (s : St) (ws : List Int) (k : Nat) : rnds s ws (k + 1) = round (rnds s ws k) (kon.getD k 0) (ws.getD k 0) := rfl
theorem step1_eq (t : St) (kk ww T : Int) (h : (((t.h + bits BinOp.xor IntKind.u32 (bits BinOp.xor IntKind.u32 (rot t.e 6) (rot t.e 11)) (rot t.e 25) + bits BinOp.xor IntKind.u32 (bits BinOp.and IntKind.u32 t.e t.f)
    (bits BinOp.and IntKind.u32 (bits BinOp.xor IntKind.u32 (if IntKind.u32.signed = true then -1 else IntKind.u32.max) t.e) t.g) + kk) % 4294967296 + ww) % 4294967296 = T)) : T = step1 t kk ww := by
  rw [← h]
  unfold step1 w32 bg1 chs inv
  rw [show (if IntKind.u32.signed = true then -1 else IntKind.u32.max) = (4294967295 : Int) from rfl]
  simp only [w32_mod]
  omega
theorem round_a (t : St) (kk ww : Int) : (round t kk ww).a = (step1 t kk ww + (bits BinOp.xor IntKind.u32 (bits BinOp.xor IntKind.u32 (rot t.a 2) (rot t.a 13)) (rot t.a 22) + bits BinOp.xor IntKind.u32
    (bits BinOp.xor IntKind.u32 (bits BinOp.and IntKind.u32 t.a t.b) (bits BinOp.and IntKind.u32 t.a t.c)) (bits BinOp.and IntKind.u32 t.b t.c)) % 4294967296) % 4294967296 := by
  unfold round step2 w32 bg0 maj
  simp only [w32_mod]
theorem round_e (t : St) (kk ww : Int) : (round t kk ww).e = (t.d + step1 t kk ww) % 4294967296 := by
  unfold round w32
  simp only [w32_mod]
abbrev z70 : Obj := .cells (kv .u32 (fill 64 [])).toArray 56
end Go.Proofs.Ytpljjmdkagbjpaa

namespace Go.Proofs.Ytpljjmdkagbjpaa
open Go.RowKit

/-- What slice v shows lies in a block of S. -/
def Blo (S : Nat → Prop) (v : Value) : Prop := ∀ x n cap, v = .slice (some x) n cap → 0 < n → S x.block
theorem add_block (x : Addr) (n : Nat) : (x.add n).block = x.block := by unfold Addr.add; split <;> rfl
theorem Blo.cut {S : Nat → Prop} {a : Option Addr} {n i j m cap : Nat} (h : Blo S (.slice a n cap)) (hj : j ≤ n) : Blo S (sliced a i j m 1) := by
  intro x k c he h0
  unfold sliced at he
  simp only [Value.slice.injEq] at he
  obtain ⟨h1, h2, h3⟩ := he
  split at h1
  · subst h1
    exact h x n cap rfl (by omega)
  · cases a with
    | none => simp at h1
    | some y =>
      simp only [Option.map_some, Option.some.injEq] at h1
      subst h1
      rw [add_block]
      exact h y n cap rfl (by omega)
/-- v shows the bytes l, outside of block b. -/
structure HoldsX (w : World) (b : Nat) (v : Value) (l : List Int) : Prop where
  h : HoldsB w w.heap.size v l
  x : Blo (· ≠ b) v
theorem HoldsX.keep {w w' : World} {b : Nat} {v : Value} {l : List Int} (h : HoldsX w b v l) (hb : Below w.heap.size w w') : HoldsX w' b v l := ⟨(h.h.keep hb).mono hb.size, h.x⟩
theorem HoldsX.turn {w w' : World} {b : Nat} {o : Obj} {v : Value} {l : List Int} (h : HoldsX w b v l) (hb : Turn b o w w') : HoldsX w' b v l := by
  refine ⟨?_, h.x⟩
  have hx := h.x
  obtain ⟨a, cap, h1, h2, h3, h4, h5, h6, h7⟩ := h.h
  subst h1
  have hs := hb.size
  refine ⟨a, cap, rfl, h2, h3, h4, fun x hxx h0 => ⟨(h5 x hxx h0).1, by have := (h5 x hxx h0).2.2; omega, by have := (h5 x hxx h0).2.2; omega⟩, fun x i hxx hi => ?_, h7⟩
  subst hxx
  exact (World.cell?_of_block (w := w) (a := ⟨x.block, x.off + i, none⟩) (hb.other _ (h5 x rfl (by omega)).2.2 (hx x _ _ rfl (by omega)))).trans (h6 x i rfl hi)
theorem HoldsX.slice {w : World} {b : Nat} {v : Value} {l : List Int} (h : HoldsX w b v l) : ∃ a n cap, v = .slice a n cap ∧ n = l.length := h.h.slice
set_option maxRecDepth 100000 in
theorem HoldsX.front {w : World} {b : Nat} {v : Value} {l : List Int} (h : HoldsX w b v l) {k : Nat} (hk : k ≤ l.length) :
    ∃ v', (∀ w1, (Instr.sliceAt 30 v none (some (.int .i64 k)) none).run Try.prog w1 = .ok v' w1) ∧ HoldsX w b v' (l.take k) := by
  obtain ⟨a, n, cap, rfl, hn⟩ := h.slice
  obtain ⟨v', h1, h2⟩ := h.h.front hk
  refine ⟨v', h1, h2, ?_⟩
  have hc : n ≤ cap := by
    obtain ⟨a', cap', e, hc, _⟩ := h.h
    simp only [Value.slice.injEq] at e
    omega
  have h3 := h1 w
  rw [run_sliceAt_slice (h := Try.underlying30), run_slice_h (ht := Try.underlying30) (h0 := by omega) (h2 := by omega), elem22, size5] at h3
  simp [Result.andThen] at h3
  rw [← h3]
  exact Blo.cut h.x (by omega)
set_option maxRecDepth 100000 in
theorem HoldsX.back {w : World} {b : Nat} {v : Value} {l : List Int} (h : HoldsX w b v l) {k : Nat} (hk : k ≤ l.length) :
    ∃ v', (∀ w1, (Instr.sliceAt 30 v (some (.int .i64 k)) none none).run Try.prog w1 = .ok v' w1) ∧ HoldsX w b v' (l.drop k) := by
  obtain ⟨a, n, cap, rfl, hn⟩ := h.slice
  obtain ⟨v', h1, h2⟩ := h.h.back hk
  refine ⟨v', h1, h2, ?_⟩
  have h3 := h1 w
  rw [run_sliceAt_slice (h := Try.underlying30), run_slice_l (ht := Try.underlying30) (h0 := by omega) (h1 := by omega), elem22, size5] at h3
  simp [Result.andThen] at h3
  rw [← h3]
  exact Blo.cut h.x (by omega)
theorem Turn.row {b : Nat} {cs : Array Value} {t : TypeId} {fr : Nat × Nat} {w w' : World} (h : Turn b (.cells cs t fr) w w') (cs' : Array Value) : Turn b (.cells cs' t fr) w (w'.setRow b cs') :=
  ⟨h.os, h.tape, h.output, by simpa [World.setRow] using h.size, h.blk.setRow cs', fun k hk hne => by rw [setRow_other w' b k cs' hne]; exact h.other k hk hne⟩
/-- copy into a block that was there. -/
theorem wpList_copy_turn {P : Program} {w : World} {ops : Array Oper} {rest : List Oper} {o : Oper} {a : Act} {Q : Exit → Act → World → Prop} (hgd : o.guard = none) (d s : Operand) (dT sT : TypeId)
    (ho : o.op = .call { callee := .builtin .copy, args := #[d, s], argTypes := #[dT, sT] }) (elem : TypeId) (hu : P.underlying dT = some (.slice elem)) (hsz : (P.info? elem).map (·.size) = some 1)
    (dp sp : Option Addr) (dLen dCap sLen sCap : Nat) (hd : a.eval d = .slice dp dLen dCap) (hs : a.eval s = .slice sp sLen sCap)
    (g off : Nat) (cur : List Value) (t : TypeId) (w0 : World) (hT : Turn g (.cells cur.toArray t) w0 w) (cs : List Value) (hn : cs.length = Nat.min sLen dLen)
    (hpos : 0 < cs.length → dp = some ⟨g, off, none⟩ ∧ ∃ ad, sp = some ad ∧ ∀ j v, cs[j]? = some v → w.cell? (ad.add j) = some v)
    (hfit : off + cs.length ≤ cur.length) (h1 : ∀ v ∈ cs, v.oneCell' = true)
    (h : ∀ w', Hid (Turn g (.cells (splice cur off cs).toArray t) w0 w') → wpList P ops Q rest (a.put o.dst (goInt cs.length)) w') :
    wpList P ops Q (o :: rest) a w := by
  by_cases h0 : cs.length = 0
  · obtain rfl : cs = [] := List.eq_nil_of_length_eq_zero h0
    refine wpList_copy_nothing hgd d s dT sT ho elem hu hsz dp sp dLen dCap sLen sCap hd hs (by simpa using hn.symm) ?_
    exact h w (show Turn _ _ _ _ by simpa [splice] using hT)
  · obtain ⟨rfl, ad, rfl, hsrc⟩ := hpos (by omega)
    refine wpList_copy_own hgd d s dT sT ho elem hu hsz g off dLen dCap ad sLen sCap hd hs cur.toArray t hT.blk cs hn hsrc (by simpa using hfit) h1 ?_
    exact h _ (show Turn _ _ _ _ by simpa [splice] using hT.row _)
theorem splice_rest {sl rest cs : List Int} {n : Int} {off : Nat} (hs : sl.length = 8) (h : off + cs.length ≤ rest.length) : splice (hashCells sl rest n) (8 + off) (kv .u8 cs) = hashCells sl (splice rest off cs) n := by
  unfold splice hashCells
  rw [List.take_append, List.drop_append]
  have e1 : (kv .u32 sl).length = 8 := by simp [hs]
  rw [e1, List.take_of_length_le (by simp; omega), List.drop_eq_nil_of_le (by simp; omega)]
  rw [show 8 + off - 8 = off by omega, show 8 + off + (kv .u8 cs).length - 8 = off + cs.length by simp; omega]
  rw [List.take_append_of_le_length (by simp; omega), List.drop_append_of_le_length (by simp; omega)]
  simp [List.map_take, List.map_drop]
theorem splice_len {l cs : List Int} {off : Nat} (h : off + cs.length ≤ l.length) : (splice l off cs).length = l.length := length_splice l off cs h
theorem splice_bytes {l cs : List Int} {off : Nat} (h : Bytes l) (h2 : Bytes cs) : Bytes (splice l off cs) := (h.take _).append (h2.append (h.drop _))
theorem splice_take {l cs : List Int} {off : Nat} (h : off ≤ l.length) : (splice l off cs).take (off + cs.length) = l.take off ++ cs := by
  unfold splice
  rw [← List.append_assoc, List.take_append_of_le_length (by simp; omega), List.take_of_length_le (by simp; omega)]
/-- Block b is a sum under way that took l in. -/
def HashIs (w : World) (b : Nat) (l : List Int) : Prop :=
  ∃ rest, rest.length = 64 ∧ Bytes rest ∧ rest.take (l.length % 64) = l.drop (64 * (l.length / 64)) ∧ Blk w b (hashObj (absorb l (l.length / 64)).list rest l.length)
/-- Block b has become a sum under way that took l in; all else is as it was. -/
def HashTurn (b : Nat) (l : List Int) (w w' : World) : Prop :=
  ∃ rest, rest.length = 64 ∧ Bytes rest ∧ rest.take (l.length % 64) = l.drop (64 * (l.length / 64)) ∧ Turn b (hashObj (absorb l (l.length / 64)).list rest l.length) w w'
theorem HashTurn.is {b : Nat} {l : List Int} {w w' : World} (h : HashTurn b l w w') : HashIs w' b l := by
  obtain ⟨rest, h1, h2, h3, h4⟩ := h
  exact ⟨rest, h1, h2, h3, h4.blk⟩
theorem HashIs.keep {w w' : World} {b : Nat} {l : List Int} (h : HashIs w b l) (hb : Below w.heap.size w w') : HashIs w' b l := by
  obtain ⟨rest, h1, h2, h3, h4⟩ := h
  exact ⟨rest, h1, h2, h3, h4.keep hb⟩
theorem HashIs.lt {w : World} {b : Nat} {l : List Int} (h : HashIs w b l) : b < w.heap.size := by
  obtain ⟨rest, h1, h2, h3, h4⟩ := h
  exact h4.lt
end Go.Proofs.Ytpljjmdkagbjpaa

namespace Go.Proofs.Ytpljjmdkagbjpaa
open Go.RowKit

theorem zeros_bytes (n : Nat) : Bytes (List.replicate n 0) := fun x hx => by
  have := List.eq_of_mem_replicate hx
  omega
end Go.Proofs.Ytpljjmdkagbjpaa

namespace Go.Proofs.Ytpljjmdkagbjpaa
open Go.RowKit

theorem hash_set_taken {sl rest : List Int} {n : Int} (hs : sl.length = 8) (hr : rest.length = 64) (m : Int) : (hashCells sl rest n).toArray.setIfInBounds 72 (.int .i64 m) = (hashCells sl rest m).toArray := by
  simp only [hashCells, List.setIfInBounds_toArray]
  congr 1
  rw [List.set_append_right _ _ (by simp; omega), List.length_map, hs, List.set_append_right _ _ (by simp; omega), List.length_map, hr]
  rfl
theorem kv_take (l : List Int) (k : Nat) : (kv .u8 l).take k = kv .u8 (l.take k) := by simp [List.map_take]
/-- The bytes of a slice, as a copy asks for them. -/
theorem HoldsX.source {w : World} {b : Nat} {a : Option Addr} {n cap : Nat} {l : List Int} (h : HoldsX w b (.slice a n cap) l) (k : Nat) (h0 : 0 < (kv .u8 (l.take k)).length) : ∃ ad, a = some ad ∧ ∀ j u, (kv .u8 (l.take k))[j]? = some u → w.cell? (ad.add j) = some u := by
  obtain ⟨ad, h1, h2⟩ := h.h.source (by simp at h0 ⊢; omega)
  refine ⟨ad, h1, fun j u hu => h2 j u ?_⟩
  rw [← kv_take, List.getElem?_take] at hu
  split at hu
  · exact hu
  · cases hu
theorem info5' : (Try.prog.info? 5).map (·.size) = some 1 := by kernel_rfl
theorem kv_one (l : List Int) : ∀ u ∈ kv .u8 l, u.oneCell' = true := by
  intro u hu
  obtain ⟨x, _, rfl⟩ := List.mem_map.1 hu
  rfl
theorem part_b {l p rest : List Int} {n r : Nat} (hn : n = l.length) (hr : r = n % 64) (h3 : rest.take r = l.drop (64 * (n / 64))) (hr1 : rest.length = 64) (h : r + p.length < 64) :
    (l ++ p).length / 64 = n / 64 ∧ (splice rest r p).take ((l ++ p).length % 64) = (l ++ p).drop (64 * ((l ++ p).length / 64)) ∧ absorb (l ++ p) (n / 64) = absorb l (n / 64) := by
  subst hn
  have e1 : (l ++ p).length = l.length + p.length := by simp
  have e2 : (l.length + p.length) / 64 = l.length / 64 := by omega
  have e3 : (l.length + p.length) % 64 = r + p.length := by omega
  refine ⟨by rw [e1, e2], ?_, absorb_append _ (by omega)⟩
  rw [e1, e2, e3, splice_take (by omega), h3, List.drop_append_of_le_length (by omega)]
theorem part_c {l p rest : List Int} {n r f : Nat} (hn : n = l.length) (hr : r = n % 64) (h3 : rest.take r = l.drop (64 * (n / 64))) (hr1 : rest.length = 64) (hf : r + f = 64) (h0 : 0 < r) (h : f ≤ p.length) :
    block (absorb l (n / 64)) (splice rest r (p.take f)) = absorb (l ++ p) (n / 64 + 1) ∧ (l ++ p).drop (64 * (n / 64 + 1)) = p.drop f := by
  subst hn
  have e : 64 * (l.length / 64 + 1) = l.length + f := by omega
  constructor
  · have h1 : absorb (l ++ p) (l.length / 64 + 1) = block (absorb (l ++ p) (l.length / 64)) (((l ++ p).drop (64 * (l.length / 64))).take 64) := rfl
    rw [h1, absorb_append _ (by omega)]
    congr 1
    have h2 := splice_take (l := rest) (cs := p.take f) (off := r) (by omega)
    rw [List.length_take, Nat.min_eq_left h, hf, List.take_of_length_le (by rw [splice_len (by rw [List.length_take]; omega)]; omega), h3] at h2
    rw [h2, List.drop_append_of_le_length (by omega)]
    have e4 : (l.drop (64 * (l.length / 64))).length = r := by simp; omega
    rw [List.take_append, e4, show 64 - r = f by omega]
    congr 1
    exact (List.take_of_length_le (by rw [e4]; omega)).symm
  · rw [e, List.drop_append, List.drop_eq_nil_of_le (by omega), List.nil_append, Nat.add_sub_cancel_left]
theorem part_a {l p : List Int} {n : Nat} (hn : n = l.length) (hr : 0 = n % 64) : absorb l (n / 64) = absorb (l ++ p) (n / 64) ∧ (l ++ p).drop (64 * (n / 64)) = p := by
  subst hn
  exact ⟨(absorb_append _ (by omega)).symm, by rw [show 64 * (l.length / 64) = l.length by omega]; simp⟩
end Go.Proofs.Ytpljjmdkagbjpaa

namespace Go.Proofs.Ytpljjmdkagbjpaa
open Go.RowKit

/-- The blocks of n bytes, of any n. -/
def blkI (n : Int) : Int := if n < 0 then 1 else if n % 64 ≤ 55 then n / 64 + 1 else n / 64 + 2
theorem blkI_nat (n : Nat) : blkI n = (blocks n : Nat) := by
  unfold blkI blocks
  rw [if_neg (by omega)]
  split <;> split <;> omega
set_option maxHeartbeats 400000 in
theorem blocks_any (n : Int) (w : World) (h2 : n ≤ 9223372036854775807) :
    Calls Try.prog 6 #[.int .i64 n] w fun r w' => r = .returned (.int .i64 (blkI n)) ∧ w' = w := by
  by_cases h0 : n < 0
  · have HE : Hid (blkI n = 1) := by show _ = _; unfold blkI; rw [if_pos h0]
    go_enter Try.func6, Try.ntmps6
    go_wp2_with fail
    go_ret
    exact ⟨reti HE.out.symm, rfl⟩
  · by_cases h5 : n % 64 ≤ 55
    · have HE : Hid (blkI n = n / 64 + 1) := by show _ = _; unfold blkI; rw [if_neg h0, if_pos h5]
      have t1 : decide (56 ≤ n % 64) = false := by simp; omega
      have h00 : 0 ≤ n := by omega
      clear h0 h5
      go_enter Try.func6, Try.ntmps6
      go_wp2_with fail
      go_ret
      exact ⟨reti HE.out.symm, rfl⟩
    · have HE : Hid (blkI n = n / 64 + 2) := by show _ = _; unfold blkI; rw [if_neg h0, if_neg h5]
      have t1 : decide (56 ≤ n % 64) = true := by simp; omega
      have h00 : 0 ≤ n := by omega
      clear h0 h5
      go_enter Try.func6, Try.ntmps6
      go_wp2_with fail
      go_ret
      exact ⟨reti HE.out.symm, rfl⟩
end Go.Proofs.Ytpljjmdkagbjpaa

namespace Go.Proofs.Ytpljjmdkagbjpaa
open Go.RowKit

/-- The bytes behind a text of n bytes, but for the last of the length's. -/
def tl (n k : Nat) : List Int := [128] ++ List.replicate (zeros n) 0 ++ (be64 (8 * (n : Int) % 18446744073709551616)).take k
theorem be64_len (n : Int) : (be64 n).length = 8 := by simp [be64]
theorem tl_len (n k : Nat) (h : k ≤ 8) : (tl n k).length = zeros n + 1 + k := by simp [tl, be64_len]; omega
theorem tl_full (n : Nat) : tl n 8 = tail n := by unfold tl tail; rw [List.take_of_length_le (by rw [be64_len]; omega)]
theorem be64_get (n : Int) (j : Nat) (h : j < 8) : (be64 n).getD j 0 = n / 2 ^ (56 - 8 * j) % 256 := by
  match j, h with
  | 0, _ => rfl
  | 1, _ => rfl
  | 2, _ => rfl
  | 3, _ => rfl
  | 4, _ => rfl
  | 5, _ => rfl
  | 6, _ => rfl
  | 7, _ => rfl
theorem tl_succ (n k : Nat) (h : k < 8) : tl n (k + 1) = tl n k ++ [(8 * (n : Int) % 18446744073709551616) / 2 ^ (56 - 8 * k) % 256] := by
  unfold tl
  rw [← be64_get _ k h, List.take_succ_eq_append_getElem (by rw [be64_len]; exact h), List.append_assoc, List.getD_eq_getElem?_getD, List.getElem?_eq_getElem (by rw [be64_len]; exact h)]
  simp
theorem tl_bytes (n k : Nat) : Bytes (tl n k) := by
  intro x hx
  unfold tl at hx
  rcases List.mem_append.1 hx with hx | hx
  · rcases List.mem_append.1 hx with hx | hx
    · simp at hx; omega
    · have := List.eq_of_mem_replicate hx; omega
  · have := List.mem_of_mem_take hx
    unfold be64 at this
    obtain ⟨i, _, rfl⟩ := List.mem_map.1 this
    omega
theorem tl_zero (n : Nat) : fill 128 (tl n 0) = (fill 128 []).set 0 128 := by
  have hz : zeros n ≤ 63 := by unfold zeros; omega
  unfold fill tl
  simp only [List.take_zero, List.append_nil, List.length_append, List.length_cons, List.length_nil, List.length_replicate, List.nil_append, Nat.sub_zero]
  rw [List.append_assoc, List.replicate_append_replicate, show zeros n + (128 - (0 + 1 + zeros n)) = 127 by omega]
  rfl
theorem zeros_blocks (n : Nat) : 64 * blocks n = n + zeros n + 9 := by
  unfold blocks zeros
  split <;> omega
end Go.Proofs.Ytpljjmdkagbjpaa

namespace Go.Proofs.Ytpljjmdkagbjpaa
open Go.RowKit

set_option maxRecDepth 100000 in
/-- append of bytes that stand somewhere, to a row of the call's own. -/
theorem wpList_append_holds {w : World} {ops : Array Oper} {rest : List Oper} {o : Oper} {a : Act} {Q : Exit → Act → World → Prop} (hgd : o.guard = none) (s x : Operand)
    (ho : o.op = .call { callee := .builtin .append, args := #[s, x], argTypes := #[30, 30] })
    (base : Nat) (v : Value) (n : Nat) (xs : List Value) (hs : a.eval s = v) (hown : w.ownsRow base 5 1 v n xs)
    (M : Nat) (u : Value) (p : List Int) (hx : a.eval x = u) (hp : HoldsB w M u p) (h63 : n + p.length ≤ 140737488355328) (hbase : base ≤ w.heap.size)
    (h : ∀ v' w', w'.ownsRow base 5 1 v' (n + p.length) (xs ++ bv p) → w.grownBy w' v.ownBlock → wpList Try.prog ops Q rest (a.put o.dst v') w') : wpList Try.prog ops Q (o :: rest) a w := by
  obtain ⟨i0, hi, hz0, hz1, hz2⟩ := info_parts info5
  obtain ⟨ad, m, cap, rfl, hm⟩ := hp.slice
  cases ad with
  | none =>
    obtain ⟨a', cap', h1, h2, h3, h4, h5, h6, h7⟩ := hp
    simp only [Value.slice.injEq] at h1
    have hc := h4 h1.1.symm
    have hl : p = [] := List.length_eq_zero_iff.1 (by omega)
    subst hl
    have hx' : a.eval x = .slice none 0 0 := by rw [hx]; simp only [Value.slice.injEq, true_and]; exact ⟨by simpa using hm, by omega⟩
    exact wpList_append_own_none hgd s x 30 ho base 5 i0 1 Try.underlying30 hi v n xs hs hown hx' (h v w (by simpa using hown) ⟨rfl, rfl, rfl, Nat.le_refl _, fun _ _ _ => rfl⟩)
  | some ad =>
    refine wpList_append_own w hgd s x 30 ho base 5 i0 (.int .u8 0) 1 1 Try.underlying30 hi hz0 hz1 hz2 rfl (by decide) v n xs hs hown ad m cap (bv p) hx (by rw [bv_len]; omega) hp.news (bv_one _) (by unfold maxLen; omega) (by omega) hbase fun v' w' h1 h2 _ => ?_
    rw [hm] at h1
    exact h v' w' h1 h2
theorem row_slice {w : World} {base n : Nat} {v : Value} {xs : List Value} (h : w.ownsRow base 5 1 v n xs) : ∃ a c, v = .slice a n c := by
  rcases h.2 with ⟨rfl, hn⟩ | ⟨g, cap, cur, rfl, _⟩
  · subst hn; exact ⟨_, _, rfl⟩
  · exact ⟨_, _, rfl⟩
/-- One byte in a new block, as a slice. -/
theorem one_holds (w : World) (x : Int) (h : 0 ≤ x ∧ x ≤ 255) : HoldsB (w.alloc (.cells #[.int .u8 x] 5)) (w.alloc (.cells #[.int .u8 x] 5)).heap.size (.slice (some ⟨w.heap.size, 0, none⟩) 1 1) [x] :=
  HoldsB.ofRow2 (off := 0) (Blk.new w _) rfl (Nat.le_refl _) (by unfold maxLen; omega) (fun i hi => match i, hi with | 0, _ => rfl | i + 1, hi => absurd hi (by simp)) (fun y hy => by simp at hy; subst hy; exact h)
/-- What stands in the length's bytes behind j rounds. -/
def lowst (E : Int) (j : Nat) : List Int := List.replicate (8 - j) 0 ++ (be64 E).drop (8 - j)
theorem lowst_len (E : Int) (j : Nat) (_h : j ≤ 8) : (lowst E j).length = 8 := by simp [lowst, be64_len]
theorem lowst_zero (E : Int) : lowst E 0 = List.replicate 8 0 := by simp [lowst, be64]
theorem lowst_full (E : Int) : lowst E 8 = be64 E := by simp [lowst]
theorem lowst_set (E : Int) (j : Nat) (h : j < 8) : (lowst E j).set (7 - j) (E / 256 ^ j % 256) = lowst E (j + 1) := by
  match j, h with
  | 0, _ => exact (show [0, 0, 0, 0, 0, 0, 0, E / 256 ^ 0 % 256] = lowst E 1 from rfl)
  | 1, _ => rfl
  | 2, _ => rfl
  | 3, _ => rfl
  | 4, _ => rfl
  | 5, _ => rfl
  | 6, _ => rfl
  | 7, _ => rfl
theorem be64_bytes (E : Int) : Bytes (be64 E) := by
  intro x hx
  unfold be64 at hx
  obtain ⟨i, _, rfl⟩ := List.mem_map.1 hx
  omega
set_option maxRecDepth 100000 in
theorem slice74_all (b : Nat) (w : World) : (Instr.sliceAt 59 (.pointer (some ⟨b, 0, none⟩)) none none none).run Try.prog w = .ok (.slice (some ⟨b, 0, none⟩) 8 8) w := by
  have hl : Try.prog.arrayLen 59 = 8 := by kernel_rfl
  have he : Try.prog.elem 59 = 5 := by kernel_rfl
  rw [run_sliceAt_array_all (ht := Try.underlying59), hl, he, size5]
  rfl
theorem ownsRow_set {w : World} {base n size D i : Nat} {e : TypeId} {v x : Value} {xs : List Value} (h : w.ownsRow base e size v n xs) (hne : v.ownBlock ≠ some D) : (w.setCell ⟨D, i, none⟩ x).ownsRow base e size v n xs :=
  h.kept (row := some D) ⟨rfl, rfl, rfl, by simp [World.setCell], fun k _ hk => Below.heap_setCell _ _ _ _ (fun e => hk (by simp [e]))⟩ (Or.inr hne)
def sliceLen : Value → Nat
  | .slice _ n _ => n
  | _ => 0
abbrev pre (p : List Int) (k : Nat) : List Int := p ++ ([128] ++ List.replicate k 0)
theorem pre_len (p : List Int) (k : Nat) : (pre p k).length = p.length + 1 + k := by simp; omega
theorem pre_succ (p : List Int) (k : Nat) : pre p (k + 1) = pre p k ++ [0] := by
  unfold pre
  rw [List.replicate_succ']
  simp
theorem pre_pad (p : List Int) : pre p (zeros p.length) ++ be64 (8 * (p.length : Int) % 18446744073709551616) = pad p := by
  unfold pre pad tail
  simp
set_option maxRecDepth 100000 in
set_option maxHeartbeats 2000000 in
theorem pad_any (M : Nat) (v : Value) (p : List Int) (w : World) (h : HoldsB w M v p) (hlen : p.length ≤ 140737488351400) :
    Calls Try.prog 22 #[v] w fun r w' => ∃ v', r = .returned v' ∧ w'.ownsRow w.heap.size 5 1 v' (pad p).length (bv (pad p)) ∧ Below w.heap.size w w' := by
  have H := Kp.mk h
  obtain ⟨a, len, cap, rfl, hn⟩ := h.slice
  have HN := Kp.mk hn
  have hl : len ≤ 140737488351400 := by omega
  clear h hn hlen
  go_enter Try.func22, Try.ntmps22
  go_wp2_with (at_builtin; refine wpList_append_holds rfl _ _ rfl w.heap.size _ _ _ rfl (World.ownsRow_made w #[] 0 (Nat.le_refl _) (by unfold maxLen; omega) rfl) M _ p rfl (H.out.alloc _) ?c0 ?c1 ?_)
  case c0 => have := HN.out; omega
  case c1 => simp
  intro v1 w1 ho hg
  have hbel : Below w.heap.size w w1 := below_row_grown (more (Below.refl _ _) (.cells #[] 5)) (by simp) (World.ownsRow_made (e := 5) (size := 1) w #[] 0 (Nat.le_refl _) (by unfold maxLen; omega) rfl) hg
  have ho1 : w1.ownsRow w.heap.size 5 1 v1 len (bv p) := by
    rw [HN.out]
    simpa using ho
  obtain ⟨a1, c1, rfl⟩ := row_slice ho1
  have HO1 := Kp.mk ho1
  have HB1 := Kp.mk hbel
  clear ho hg hbel ho1
  go_wp2_with (at_builtin; refine wpList_append_holds rfl _ _ rfl w.heap.size _ _ _ rfl (HO1.out.alloc _) _ _ [128] rfl (one_holds w1 128 (by omega)) ?d0 ?d1 ?_)
  case d0 => simp; omega
  case d1 => have := HB1.out.size; simp; omega
  intro v2 w2 ho hg
  have hbel : Below w.heap.size w w2 := below_row_grown (HB1.out.alloc HB1.out.size _) (by have := HB1.out.size; simp; omega) (HO1.out.alloc _) hg
  obtain ⟨L0, hL0⟩ : ∃ L0, L0 = len + 1 := ⟨_, rfl⟩
  have ho2 : w2.ownsRow w.heap.size 5 1 v2 L0 (bv (pre p 0)) := by
    have e : bv (pre p 0) = bv p ++ bv [128] := by simp
    rw [e, hL0]
    simpa using ho
  obtain ⟨a2, c2, rfl⟩ := row_slice ho2
  have HO2 := Kp.mk ho2
  have HB2 := Kp.mk hbel
  clear ho hg hbel ho2 HO1 HB1
  obtain ⟨z, hz⟩ : ∃ z, z = zeros len := ⟨_, rfl⟩
  have hz63 : z ≤ 63 := by rw [hz]; unfold zeros; omega
  have hzm : (L0 + z) % 64 = 56 := by rw [hz]; unfold zeros; omega
  have hzl : ∀ k, k < z → (L0 + k) % 64 ≠ 56 := by rw [hz]; unfold zeros; omega
  have HL0 := Kp.mk hL0
  have hlb : L0 ≤ 140737488351401 := by omega
  have HZ := Kp.mk hz
  have HZM := Kp.mk hzm
  have HZL := Kp.mk hzl
  clear hz hzm hzl hL0
  go_wp2_with fail
  go_loopw [3] (fun s3 wr => ∃ (k : Nat) (a3 : Option Addr) (c3 : Nat), k ≤ z ∧ s3 = .slice a3 (L0 + k) c3 ∧ Kp (wr.ownsRow w.heap.size 5 1 (.slice a3 (L0 + k) c3) (L0 + k) (bv (pre p k))) ∧ Below w.heap.size w wr) (fun s3 _ => L0 + z - sliceLen s3)
  case atStart => exact ⟨0, a2, c2, by omega, rfl, HO2, HB2.out⟩
  case round =>
    obtain ⟨k, a3, c3, hk, rfl, HO3, hbe⟩ := hrel
    have HB3 := Kp.mk hbe
    clear hbe HO2 HB2
    obtain ⟨L, hL⟩ : ∃ L, L = L0 + k := ⟨_, rfl⟩
    rw [← hL] at HO3
    rw [← hL]
    by_cases hlt : k < z
    · have hne := HZL.out k hlt
      rw [← hL] at hne
      have t1 : ((L : Int) % 64 == 56) = false := by rw [beq_eq_false_iff_ne]; omega
      have t2 : ((L : Int) % 64 != 56) = true := by rw [bne_iff_ne]; omega
      have hb : L ≤ 140737488352000 := by omega
      have HLe := Kp.mk hL
      clear hL hne
      go_wp2_with (at_builtin; refine wpList_append_holds rfl _ _ rfl w.heap.size _ _ _ rfl (HO3.out.alloc _) _ _ [0] rfl (one_holds wr 0 (by omega)) ?e0 ?e1 ?_)
      case e0 => simp; omega
      case e1 => have := HB3.out.size; simp; omega
      intro v4 w4 ho hg
      have hbel : Below w.heap.size w w4 := below_row_grown (HB3.out.alloc HB3.out.size _) (by have := HB3.out.size; simp; omega) (HO3.out.alloc _) hg
      have ho4 : w4.ownsRow w.heap.size 5 1 v4 (L0 + (k + 1)) (bv (pre p (k + 1))) := by
        rw [pre_succ, ← Nat.add_assoc, ← HLe.out]
        simpa using ho
      obtain ⟨a4, c4, rfl⟩ := row_slice ho4
      have HO4 := Kp.mk ho4
      have HB4 := Kp.mk hbel
      clear ho hg hbel ho4
      go_wp2_with fail
      refine ⟨⟨k + 1, a4, c4, by omega, rfl, HO4, HB4.out⟩, ?_⟩
      rw [HLe.out]
      simp [sliceLen]
      omega
    · have HK : Kp (k = z) := ⟨by omega⟩
      have hmm := HZM.out
      rw [← HK.out, ← hL] at hmm
      have t1 : ((L : Int) % 64 == 56) = true := by rw [beq_iff_eq]; omega
      have t2 : ((L : Int) % 64 != 56) = false := by rw [bne_eq_false_iff_eq]; omega
      have hb : L ≤ 140737488352000 := by omega
      have HLe := Kp.mk hL
      have HO5 : Kp (wr.ownsRow w.heap.size 5 1 (.slice a3 L c3) L (bv (pre p z))) := by
        have h := HO3.out
        rw [HK.out] at h
        exact ⟨h⟩
      clear hL hmm hlt hk HO3
      obtain ⟨D, hD⟩ : ∃ D, D = wr.heap.size := ⟨_, rfl⟩
      have HD := Kp.mk hD
      clear hD
      go_wp2_with fail
      rw [← HD.out]
      generalize hE : (len : Int) * 8 = E
      have e0 : 0 ≤ E := by omega
      have e1 : E ≤ 9000000000000000 := by omega
      have HE : Kp (8 * (p.length : Int) % 18446744073709551616 = E) := ⟨by have := HN.out; omega⟩
      clear hE t1 t2
      refine wp_world (fun W => Row W D 59 .u8 (lowst E 0) ∧ W.ownsRow w.heap.size 5 1 (.slice a3 L c3) L (bv (pre p z)) ∧ Below w.heap.size w W) ⟨by rw [lowst_zero]; exact Blk.newAt _ HD.out, HO5.out.alloc _, HB3.out.alloc HB3.out.size _⟩ ?_
      rintro w5 ⟨h1, h2, h3⟩
      have HDB : Kp (w.heap.size ≤ D ∧ (∀ g, a3 = some g → g.block ≠ D)) := ⟨⟨by rw [HD.out]; exact HB3.out.size, fun g hg => by
        subst hg
        have := (HO5.out.lt g.block (by simp [Value.ownBlock])).2
        rw [HD.out]
        omega⟩⟩
      have F1 := Kp.mk h1
      have F2 := Kp.mk h2
      have F3 := Kp.mk h3
      clear h1 h2 h3 HO5 HD HB3
      go_loopw [4, 6] (fun q c wr => ∃ j : Nat, j ≤ 8 ∧ c = .int .i64 ((7 : Int) - j) ∧ q = .int .u64 (E / 256 ^ j) ∧ Row wr D 59 .u8 (lowst E j) ∧ wr.ownsRow w.heap.size 5 1 (.slice a3 L c3) L (bv (pre p z)) ∧ Below w.heap.size w wr) (fun _ c _ => (intOf c + 1).toNat)
      case atStart => exact ⟨0, by omega, rfl, by simp, F1.out, F2.out, F3.out⟩
      case round =>
        obtain ⟨j, hj, rfl, rfl, h1, h2, h3⟩ := hrel
        have G1 := Kp.mk h1
        have G2 := Kp.mk h2
        have G3 := Kp.mk h3
        clear h1 h2 h3 F1 F2 F3
        have q0 : 0 ≤ E / 256 ^ j := Int.ediv_nonneg e0 (Int.pow_nonneg (by decide))
        have q1 : E / 256 ^ j ≤ 9000000000000000 := Int.le_trans (Int.ediv_le_self _ e0) e1
        have HQ : Kp (E / 256 ^ j / 256 = E / 256 ^ (j + 1)) := ⟨by rw [Int.ediv_ediv_of_nonneg (Int.pow_nonneg (by decide)), Int.pow_succ]⟩
        have HS := fun h => Kp.mk (lowst_set E j h)
        generalize hQ : E / 256 ^ j = Q at *
        by_cases hlj : j < 8
        · have HS2 := HS hlj
          clear HS
          obtain ⟨i, hi⟩ : ∃ i : Nat, (7 : Int) - j = i := ⟨7 - j, by omega⟩
          have HI : Kp (i = 7 - j ∧ i < 8) := ⟨by omega⟩
          rw [hi]
          have i8 : i < 8 := by omega
          have cw := G1.out.cell (i := i) (by rw [lowst_len E j hj]; exact i8)
          have fw := G1.out.frozen i
          have HHi := Kp.mk hi
          clear hi hQ
          go_wp2_with fail
          refine ⟨⟨j + 1, by omega, ?_, ?_, ?_, ?_, G3.out.setCell HDB.out.1 _⟩, by simp [intOf]⟩
          · have := HHi.out
            congr 1
            omega
          · rw [HQ.out]
          · refine (G1.out.set i _).as ?_
            rw [HI.out.1]
            exact HS2.out
          · refine ownsRow_set G2.out ?_
            cases a3 with
            | none => simp [Value.ownBlock]
            | some g => simp only [Value.ownBlock, ne_eq, Option.some.injEq]; exact HDB.out.2 g rfl
        · have HJ : Kp (j = 8) := ⟨by omega⟩
          obtain ⟨i, hi⟩ : ∃ i : Int, (7 : Int) - j = i := ⟨_, rfl⟩
          rw [hi]
          have i0 : i < 0 := by omega
          have hs := slice74_all D
          have G4 : Kp (Row wr D 59 .u8 (be64 E)) := by
            have h := G1.out
            rw [HJ.out, lowst_full] at h
            exact ⟨h⟩
          have HH : Kp (HoldsB wr wr.heap.size (.slice (some ⟨D, 0, none⟩) 8 8) (be64 E)) :=
            ⟨HoldsB.ofRow2 (off := 0) G4.out (be64_len E).symm (Nat.le_refl _) (by unfold maxLen; omega) (fun i hi => by simp [List.getElem?_eq_getElem hi, List.getD_eq_getElem?_getD]) (be64_bytes E)⟩
          have HLn : Kp (L = L0 + z) := ⟨by have := HLe.out; have := HK.out; omega⟩
          clear HS hi hQ G1 hlj hj
          go_wp2_with (at_builtin; refine wpList_append_holds rfl _ _ rfl w.heap.size _ _ _ rfl G2.out _ _ (be64 E) rfl HH.out ?f0 ?f1 ?_)
          case f0 => rw [be64_len]; omega
          case f1 => exact G3.out.size
          intro v6 w6 ho hg
          have hbel : Below w.heap.size w w6 := below_row_grown G3.out G3.out.size G2.out hg
          have ho6 : w6.ownsRow w.heap.size 5 1 v6 (pad p).length (bv (pad p)) := by
            have e1 : pre p z ++ be64 E = pad p := by rw [HZ.out, HN.out, ← HE.out]; exact pre_pad p
            rw [be64_len] at ho
            have e2 : bv (pad p) = bv (pre p z) ++ bv (be64 E) := by rw [← e1]; simp
            have e3 : (pad p).length = L + 8 := by rw [← e1, List.length_append, pre_len, be64_len]; have := HLn.out; have := HL0.out; have := HN.out; omega
            rw [e2, e3]
            simpa using ho
          have HO6 := Kp.mk ho6
          have HB6 := Kp.mk hbel
          clear ho hg hbel ho6 hs
          go_wp2_with fail
          go_ret
          exact ⟨_, rfl, HO6.out, HB6.out⟩
end Go.Proofs.Ytpljjmdkagbjpaa

namespace Go.Proofs.Ytpljjmdkagbjpaa
open Go.RowKit

/-- The slice v shows rows of bytes. -/
def HoldsP (w : World) (v : Value) (zs : List (List Int)) : Prop :=
  ∃ a cap, v = .slice a zs.length cap ∧ zs.length ≤ maxLen ∧ ∀ i, i < zs.length → ∃ b off a1 n1 c1, a = some ⟨b, off, none⟩ ∧ b < w.heap.size ∧ w.cell? ⟨b, off + i, none⟩ = some (.slice a1 n1 c1) ∧ HoldsB w w.heap.size (.slice a1 n1 c1) (zs.getD i [])
theorem HoldsP.keep {w w' : World} {v : Value} {zs : List (List Int)} (h : HoldsP w v zs) (hb : Below w.heap.size w w') : HoldsP w' v zs := by
  obtain ⟨a, cap, h1, h2, h3⟩ := h
  refine ⟨a, cap, h1, h2, fun i hi => ?_⟩
  obtain ⟨b, off, a1, n1, c1, e1, e2, e3, e4⟩ := h3 i hi
  exact ⟨b, off, a1, n1, c1, e1, Nat.lt_of_lt_of_le e2 hb.size, (hb.cell (p := ⟨b, off + i, none⟩) e2).trans e3, (e4.keep hb).mono hb.size⟩
theorem HoldsP.slice {w : World} {v : Value} {zs : List (List Int)} (h : HoldsP w v zs) : ∃ a n cap, v = .slice a n cap ∧ n = zs.length := by
  obtain ⟨a, cap, h1, _⟩ := h
  exact ⟨a, _, cap, h1, rfl⟩
open Go.ChangeShapes Go.WideShapes Go.ChangeAt Go.Deep in
theorem trod_row {H : Type} {enc : TypeId × Value → H} {W : World} {n : Nat} {V : Value} {d : DataW H} {p : List MemPlace}
    (h : DataW.trod enc Try.prog W 0 (fun _ => true) true n 30 [V] = some (d, p)) : ∃ a len cap l, V = .slice a len cap ∧ HoldsB W W.heap.size (.slice a len cap) l := by
  rcases open_slice1 Try.underlying30 (by kernel_rfl) h with ⟨hcs, _⟩ | ⟨x, l, c, m, n', V', D, Pl, hcs, _⟩
  · simp only [List.cons.injEq, and_true] at hcs
    subst hcs
    exact ⟨_, _, _, [], rfl, HoldsB.nil _ _⟩
  · simp only [List.cons.injEq, and_true] at hcs
    subst hcs
    obtain ⟨l', h'⟩ := row_bytes (enc := enc) (W := W) (a := some x) (len := l) (cap := c) (d := d) (p := p) ⟨n, h⟩
    exact ⟨_, _, _, l', rfl, h'⟩
open Go.ChangeShapes Go.WideShapes Go.ChangeAt Go.Deep in
/-- A slice of slices of bytes that came in. -/
theorem row_parts {H : Type} {enc : TypeId × Value → H} {W : World} {a : Option Addr} {len cap : Nat} {d : DataW H} {p : List MemPlace}
    (k : DataW.Trod enc Try.prog W 0 (fun _ => true) true 26 (.slice a len cap) d p) : ∃ zs, HoldsP W (.slice a len cap) zs := by
  obtain ⟨fuel, hf⟩ := k
  rcases open_slice1 Try.underlying26 (by kernel_rfl) hf with ⟨hcs, _⟩ | ⟨x, l, c, m, n, V, D, Pl, hcs, hb, hl, hm, hmm, hx, hi⟩
  · simp [Value.cells] at hcs
    obtain ⟨rfl, rfl, rfl⟩ := hcs
    exact ⟨[], none, 0, rfl, by unfold maxLen; simp, fun i hi => by simp at hi⟩
  · simp [Value.cells] at hcs
    obtain ⟨rfl, rfl, rfl⟩ := hcs
    have hmc : m = cap := by simpa using hmm
    have each : ∀ i, i < len → ∃ l', ∃ a1 n1 c1, W.cell? (x.add i) = some (.slice a1 n1 c1) ∧ HoldsB W W.heap.size (.slice a1 n1 c1) l' := fun i him => by
      obtain ⟨hc, ht⟩ := hi i (by omega)
      obtain ⟨a1, n1, c1, l', e, hh⟩ := trod_row ht
      rw [e] at hc
      exact ⟨l', a1, n1, c1, hc, hh⟩
    obtain ⟨f, hf'⟩ : ∃ f : Nat → List Int, ∀ i, i < len → ∃ a1 n1 c1, W.cell? (x.add i) = some (.slice a1 n1 c1) ∧ HoldsB W W.heap.size (.slice a1 n1 c1) (f i) := by
      refine ⟨fun i => if h : i < len then Classical.choose (each i h) else [], fun i hi => ?_⟩
      simp only [hi, dif_pos]
      exact Classical.choose_spec (each i hi)
    refine ⟨(List.range len).map f, some x, cap, by simp, by simp; omega, fun i hi' => ?_⟩
    simp at hi'
    obtain ⟨a1, n1, c1, e1, e2⟩ := hf' i hi'
    have hsp : x.spot = none ∧ x.block < W.heap.size := by
      obtain ⟨_, _, _, h1, _⟩ := hf' 0 (by omega)
      have h2 : x.add 0 = x := by simp [Addr.add]
      rw [h2] at h1
      exact ⟨World.cell?_spot h1, World.block_lt_of_cell? W _ h1⟩
    obtain ⟨b, off, spot⟩ := x
    simp only at hsp
    obtain ⟨rfl, hlt⟩ := hsp
    have e : (⟨b, off, none⟩ : Addr).add i = ⟨b, off + i, none⟩ := by unfold Addr.add; split <;> simp_all
    rw [e] at e1
    refine ⟨b, off, a1, n1, c1, rfl, hlt, e1, ?_⟩
    rw [List.getD_eq_getElem?_getD, List.getElem?_map, List.getElem?_range hi']
    exact e2
end Go.Proofs.Ytpljjmdkagbjpaa

namespace Go.Proofs.Ytpljjmdkagbjpaa
open Go.RowKit

theorem row_upto {w w' : World} {base B n : Nat} {e : TypeId} {v : Value} {xs : List Value} (h : w.ownsRow base e 1 v n xs) (hlt : ∀ g, v.ownBlock = some g → g < B) (hb : Below B w w') : w'.ownsRow base e 1 v n xs := by
  obtain ⟨h1, h2⟩ := h
  refine ⟨h1, ?_⟩
  rcases h2 with h2 | ⟨g, cap, cur, e1, hg, hh, r⟩
  · exact .inl h2
  · subst e1
    exact .inr ⟨g, cap, cur, rfl, hg, (hb.block g (hlt g rfl)).trans hh, r⟩
theorem HashIs.upto {w w' : World} {b B : Nat} {l : List Int} (h : HashIs w b l) (hb : Below B w w') (hB : b < B) : HashIs w' b l := by
  obtain ⟨rest, h1, h2, h3, h4⟩ := h
  exact ⟨rest, h1, h2, h3, h4.upto hb hB⟩
theorem bits_u8 (op : BinOp) (x y : Int) : 0 ≤ bits op .u8 x y ∧ bits op .u8 x y ≤ 255 := by
  unfold bits
  simp only [IntKind.wrap_u8']
  omega
/-- append of bytes to an empty row that the call made: what is handed back isn't nil. -/
theorem wpList_append_made {w : World} {ops : Array Oper} {rest : List Oper} {o : Oper} {a : Act} {Q : Exit → Act → World → Prop} (hgd : o.guard = none) (s x : Operand)
    (ho : o.op = .call { callee := .builtin .append, args := #[s, x], argTypes := #[30, 30] })
    (base g0 : Nat) (hs : a.eval s = .slice (some ⟨g0, 0, none⟩) 0 0) (hown : w.ownsRow base 5 1 (.slice (some ⟨g0, 0, none⟩) 0 0) 0 [])
    (M : Nat) (u : Value) (p : List Int) (hx : a.eval x = u) (hp : HoldsB w M u p) (h63 : p.length ≤ 140737488355328) (hbase : base ≤ w.heap.size)
    (h : ∀ g c w', w'.ownsRow base 5 1 (.slice (some ⟨g, 0, none⟩) p.length c) p.length (kv .u8 p) → w.grownBy w' (some g0) → wpList Try.prog ops Q rest (a.put o.dst (.slice (some ⟨g, 0, none⟩) p.length c)) w') : wpList Try.prog ops Q (o :: rest) a w := by
  obtain ⟨i0, hi, hz0, hz1, hz2⟩ := info_parts info5
  obtain ⟨ad, m, cap, rfl, hm⟩ := hp.slice
  cases ad with
  | none =>
    obtain ⟨a', cap', h1, h2, h3, h4, h5, h6, h7⟩ := hp
    simp only [Value.slice.injEq] at h1
    have hc := h4 h1.1.symm
    have hl : p = [] := List.length_eq_zero_iff.1 (by omega)
    subst hl
    have hx' : a.eval x = .slice none 0 0 := by rw [hx]; simp only [Value.slice.injEq, true_and]; exact ⟨by simpa using hm, by omega⟩
    exact wpList_append_own_none hgd s x 30 ho base 5 i0 1 Try.underlying30 hi _ 0 [] hs hown hx' (h g0 0 w hown ⟨rfl, rfl, rfl, Nat.le_refl _, fun _ _ _ => rfl⟩)
  | some ad =>
    refine wpList_append_own w hgd s x 30 ho base 5 i0 (.int .u8 0) 1 1 Try.underlying30 hi hz0 hz1 hz2 rfl (by decide) _ 0 [] hs hown ad m cap (bv p) hx (by rw [bv_len]; omega) hp.news (bv_one _) (by unfold maxLen; omega) (by omega) hbase fun v' w' h1 h2 h3 => ?_
    rw [hm, Nat.zero_add, List.nil_append] at h1
    rcases h1.2 with ⟨rfl, hn⟩ | ⟨g, c, cur, rfl, _⟩
    · exact absurd (h3.1 rfl).1 (by simp)
    · exact h g c w' h1 h2
end Go.Proofs.Ytpljjmdkagbjpaa

namespace Go.Proofs.Ytpljjmdkagbjpaa
open Go.RowKit

theorem bytes_get (s : St) (i j : Nat) (hi : i < 8) (hj : j < 4) : s.bytes.getD (4 * i + j) 0 = s.list.getD i 0 / 2 ^ (24 - 8 * j) % 256 := by
  match j, hj with
  | 0, _ =>
    match i, hi with
    | 0, _ => rfl
    | 1, _ => rfl
    | 2, _ => rfl
    | 3, _ => rfl
    | 4, _ => rfl
    | 5, _ => rfl
    | 6, _ => rfl
    | 7, _ => rfl
  | 1, _ =>
    match i, hi with
    | 0, _ => rfl
    | 1, _ => rfl
    | 2, _ => rfl
    | 3, _ => rfl
    | 4, _ => rfl
    | 5, _ => rfl
    | 6, _ => rfl
    | 7, _ => rfl
  | 2, _ =>
    match i, hi with
    | 0, _ => rfl
    | 1, _ => rfl
    | 2, _ => rfl
    | 3, _ => rfl
    | 4, _ => rfl
    | 5, _ => rfl
    | 6, _ => rfl
    | 7, _ => rfl
  | 3, _ =>
    match i, hi with
    | 0, _ => exact (show s.a % 256 = s.a / 1 % 256 by rw [Int.ediv_one])
    | 1, _ => exact (show s.b % 256 = s.b / 1 % 256 by rw [Int.ediv_one])
    | 2, _ => exact (show s.c % 256 = s.c / 1 % 256 by rw [Int.ediv_one])
    | 3, _ => exact (show s.d % 256 = s.d / 1 % 256 by rw [Int.ediv_one])
    | 4, _ => exact (show s.e % 256 = s.e / 1 % 256 by rw [Int.ediv_one])
    | 5, _ => exact (show s.f % 256 = s.f / 1 % 256 by rw [Int.ediv_one])
    | 6, _ => exact (show s.g % 256 = s.g / 1 % 256 by rw [Int.ediv_one])
    | 7, _ => exact (show s.h % 256 = s.h / 1 % 256 by rw [Int.ediv_one])
theorem bytes_step (s : St) (k : Nat) (h : k < 32) : s.bytes.take (k + 1) = s.bytes.take k ++ [s.bytes.getD k 0] := by
  rw [List.take_succ_eq_append_getElem (by rw [bytes_len]; exact h), List.getD_eq_getElem?_getD, List.getElem?_eq_getElem (by rw [bytes_len]; exact h)]
  rfl
theorem be32_bytes (n : Int) : Bytes (be32 n) := by
  intro x hx
  simp [be32] at hx
  omega
theorem bytes_bytes (s : St) : Bytes s.bytes :=
  (((((((be32_bytes _).append (be32_bytes _)).append (be32_bytes _)).append (be32_bytes _)).append (be32_bytes _)).append (be32_bytes _)).append (be32_bytes _)).append (be32_bytes _)
theorem info68 : (Try.prog.info? 54).map (·.size) = some 8 := by kernel_rfl
theorem hash_all (sl rest : List Int) (n : Int) : (hashCells sl rest n).toArray.all (·.oneCell') = true := Array.all_eq_true_iff_forall_mem.2 fun v hv => by
  have hv : v ∈ hashCells sl rest n := by simpa using hv
  unfold hashCells at hv
  rcases List.mem_append.1 hv with hv | hv
  · obtain ⟨x, _, rfl⟩ := List.mem_map.1 hv; rfl
  · rcases List.mem_append.1 hv with hv | hv
    · obtain ⟨x, _, rfl⟩ := List.mem_map.1 hv; rfl
    · simp at hv; subst hv; rfl
abbrev z25 : Obj := .cells (kv .u8 (fill 32 [])).toArray 95
/-- The numbers of a state, as the cells of an array. -/
abbrev stv (s : St) : List Value := [.int .u32 s.a, .int .u32 s.b, .int .u32 s.c, .int .u32 s.d, .int .u32 s.e, .int .u32 s.f, .int .u32 s.g, .int .u32 s.h]
theorem calls_world {P : Program} {f : FuncId} {args : Array Value} {w : World} {R : Ending → World → Prop} (F : World → Prop) (hF : F w) (h : ∀ w2, F w2 → Calls P f args w2 R) : Calls P f args w R := h w hF
theorem pad_state {w : World} {b : Nat} {l : List Int} (h : HashIs w b (pad l)) : w.rangeAt b 0 (stv (sumSt l)) := by
  obtain ⟨rest, h1, h2, h3, h4⟩ := h
  intro j v hv
  rw [h4.cell, Nat.zero_add]
  have hj : j < 8 := (List.getElem?_eq_some_iff.1 hv).1
  have e : (pad l).length / 64 = blocks l.length := by rw [pad_len]; omega
  rw [e] at h4 ⊢
  have h5 : stv (sumSt l) = kv .u32 (absorb (pad l) (blocks l.length)).list := rfl
  rw [h5] at hv
  unfold hashCells
  rw [List.getElem?_toArray, List.getElem?_append_left (by rw [List.length_map, list_len]; exact hj)]
  exact hv
theorem HoldsB.own {w : World} {M : Nat} {v : Value} {l : List Int} (h : HoldsB w M v l) : HoldsB w w.heap.size v l := by
  obtain ⟨a, cap, h1, h2, h3, h4, h5, h6, h7⟩ := h
  exact ⟨a, cap, h1, h2, h3, h4, fun x hx h0 => ⟨(h5 x hx h0).1, (h5 x hx h0).2.2, (h5 x hx h0).2.2⟩, h6, h7⟩
/-- Bytes that were there ahead of block b. -/
theorem HoldsB.apart {w w' : World} {M b : Nat} {v : Value} {l : List Int} (h : HoldsB w M v l) (hb : Below w.heap.size w w') (hle : w.heap.size ≤ b) : HoldsX w' b v l := by
  refine ⟨(h.own.keep hb).mono hb.size, ?_⟩
  obtain ⟨a, cap, rfl, h2, h3, h4, h5, h6, h7⟩ := h
  intro x n c he h0
  simp only [Value.slice.injEq] at he
  have := (h5 x he.1 (by omega)).2.2
  show x.block ≠ b
  omega
end Go.Proofs.Ytpljjmdkagbjpaa



namespace Go.Proofs.Ytpljjmdkagbjpaa
open Go.RowKit

theorem digest_bytes (l : List Int) : Bytes (digest l) := bytes_bytes _
theorem HoldsB.ofBytes {w : World} {b : Nat} {l : List Int} {t : TypeId} (h : Row w b t .u8 l) (hb : Bytes l) (hm : l.length ≤ maxLen) : HoldsB w w.heap.size (.slice (some ⟨b, 0, none⟩) l.length l.length) l :=
  HoldsB.ofRow2 (off := 0) h rfl (Nat.le_refl _) hm (fun i hi => by simp [List.getElem?_eq_getElem hi, List.getD_eq_getElem?_getD]) hb
end Go.Proofs.Ytpljjmdkagbjpaa

namespace Go.Proofs.Ytpljjmdkagbjpaa
open Go.RowKit

/-- A key's block. -/
def keyb (k : List Int) : List Int := fill 64 (if 64 < k.length then digest k else k)
theorem keyb_len (k : List Int) : (keyb k).length = 64 := by
  unfold keyb
  split
  · rw [fill_len (by rw [digest_len]; omega)]
  · rw [fill_len (by omega)]
theorem fill_bytes {n : Nat} {l : List Int} (h : Bytes l) : Bytes (fill n l) := h.append (zeros_bytes _)
theorem keyb_bytes {k : List Int} (h : Bytes k) : Bytes (keyb k) := by
  unfold keyb
  split
  · exact fill_bytes (digest_bytes _)
  · exact fill_bytes h
/-- Each byte laid over with x. -/
def over (l : List Int) (x : Int) : List Int := l.map fun b => bits .xor .u8 b x
theorem over_len (l : List Int) (x : Int) : (over l x).length = l.length := by simp [over]
theorem bits_u8r (op : BinOp) (x y : Int) : 0 ≤ bits op .u8 x y ∧ bits op .u8 x y ≤ 255 := by
  unfold bits
  simp only [IntKind.wrap_u8']
  omega
theorem over_bytes (l : List Int) (x : Int) : Bytes (over l x) := by
  intro y hy
  unfold over at hy
  obtain ⟨b, _, rfl⟩ := List.mem_map.1 hy
  exact bits_u8r _ _ _
/-- A message's tag by a key. -/
def macL (k p : List Int) : List Int := digest (over (keyb k) 92 ++ digest (over (keyb k) 54 ++ p))
abbrev z75 : Obj := .cells (kv .u8 (fill 64 [])).toArray 143
theorem size75 {l : List Int} (h : l.length = 64) : (kv .u8 (fill 64 [])).toArray.size = (kv .u8 l).toArray.size := by rw [kv_size, kv_size, h]; rfl
/-- l with its first k numbers laid over. -/
def ovr (l : List Int) (x : Int) (k : Nat) : List Int := (over l x).take k ++ l.drop k
theorem ovr_len (l : List Int) (x : Int) (k : Nat) (h : k ≤ l.length) : (ovr l x k).length = l.length := by simp [ovr, over_len]; omega
theorem ovr_get (l : List Int) (x : Int) (k : Nat) (h : k < l.length) : (ovr l x k).getD k 0 = l.getD k 0 := by
  unfold ovr
  rw [List.getD_eq_getElem?_getD, List.getElem?_append_right (by rw [List.length_take, over_len]; omega), List.length_take, over_len, Nat.min_eq_left (Nat.le_of_lt h), Nat.sub_self, List.getElem?_drop, Nat.add_zero, ← List.getD_eq_getElem?_getD]
theorem ovr_set (l : List Int) (x : Int) (k : Nat) (h : k < l.length) : (ovr l x k).set k (bits .xor .u8 (l.getD k 0) x) = ovr l x (k + 1) := by
  unfold ovr
  have e1 : ((over l x).take k).length = k := by rw [List.length_take, over_len]; omega
  rw [List.set_append_right _ _ (by omega), e1, Nat.sub_self]
  have e2 : l.drop k = l.getD k 0 :: l.drop (k + 1) := by
    rw [List.drop_eq_getElem_cons h, List.getD_eq_getElem?_getD, List.getElem?_eq_getElem h]
    rfl
  have e3 : (over l x).take (k + 1) = (over l x).take k ++ [bits .xor .u8 (l.getD k 0) x] := by
    rw [List.take_succ_eq_append_getElem (by rw [over_len]; exact h), List.getD_eq_getElem?_getD, List.getElem?_eq_getElem h]
    simp [over]
  rw [e2, List.set_cons_zero, e3, List.append_assoc]
  rfl
theorem ovr_zero (l : List Int) (x : Int) : ovr l x 0 = l := by simp [ovr]
theorem ovr_full (l : List Int) (x : Int) : ovr l x l.length = over l x := by
  unfold ovr
  rw [List.take_of_length_le (by rw [over_len]; exact Nat.le_refl _), List.drop_of_length_le (Nat.le_refl _), List.append_nil]
end Go.Proofs.Ytpljjmdkagbjpaa

namespace Go.Proofs.Ytpljjmdkagbjpaa
open Go.RowKit

end Go.Proofs.Ytpljjmdkagbjpaa

namespace Go.Proofs.Ytpljjmdkagbjpaa
open Go.RowKit

theorem keyb_small {k : List Int} (h : k.length ≤ 64) : keyb k = fill 64 k := by unfold keyb; rw [if_neg (by omega)]
theorem keyb_big {k : List Int} (h : 64 < k.length) : keyb k = fill 64 (digest k) := by unfold keyb; rw [if_pos h]
theorem splice_key (p : List Int) : splice (kv .u8 (fill 64 [])) 0 (kv .u8 p) = kv .u8 (fill 64 p) := by
  unfold splice fill kv
  simp only [List.nil_append, List.take_zero, List.map_append, List.map_replicate, List.length_map, List.length_nil, Nat.zero_add, List.drop_replicate, Nat.sub_zero]
theorem HoldsB.cells {w : World} {M : Nat} {a : Option Addr} {n cap : Nat} {l : List Int} (h : HoldsB w M (.slice a n cap) l) (h0 : 0 < (kv .u8 l).length) : ∃ ad, a = some ad ∧ ∀ j u, (kv .u8 l)[j]? = some u → w.cell? (ad.add j) = some u := h.source h0
end Go.Proofs.Ytpljjmdkagbjpaa

namespace Go.Proofs.Ytpljjmdkagbjpaa
open Go.RowKit

theorem below_drew2 {B : Nat} {w w' : World} (h : Below B w.drew w') : Below B w w' := ⟨h.os, h.tape, h.output, h.size, h.block⟩
end Go.Proofs.Ytpljjmdkagbjpaa
