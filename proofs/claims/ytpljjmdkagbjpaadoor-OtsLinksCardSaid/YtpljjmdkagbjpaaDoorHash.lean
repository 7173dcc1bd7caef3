/-
  A sum that is under way, as it stands in memory; the constants; (*sha.Hash).compress.
-/
import Derived.Test.YtpljjmdkagbjpaaDoorSched
namespace Go.Proofs.YtpljjmdkagbjpaaDoor
open Go.RowKit

/-- The package's variable holds the standard's constants. -/
def KonIs (w : World) : Prop := ∀ i, i < 64 → w.cell? ⟨0, i, none⟩ = some (.int .u32 (kon.getD i 0))
theorem KonIs.pos {w : World} (h : KonIs w) : 0 < w.heap.size := World.block_lt_of_cell? w _ (h 0 (by omega))
theorem KonIs.frame {w w' : World} (h : KonIs w) (hb : w'.heap[0]? = w.heap[0]?) : KonIs w' := fun i hi => (World.cell?_of_block (w := w) (a := ⟨0, i, none⟩) hb).trans (h i hi)
theorem KonIs.keep {w w' : World} (h : KonIs w) (hb : Below w.heap.size w w') : KonIs w' := h.frame (hb.block 0 h.pos)
theorem KonIs.turn {w w' : World} {b : Nat} {o : Obj} (h : KonIs w) (hb : Turn b o w w') (h0 : 0 < b) : KonIs w' := h.frame (hb.other 0 h.pos (by omega))
/-- The cells of a sum under way: the state's numbers, the bytes that wait, how many were taken. -/
def hashCells (sl rest : List Int) (n : Int) : List Value := kv .u32 sl ++ (kv .u8 rest ++ [.int .i64 n])
abbrev hashObj (sl rest : List Int) (n : Int) : Obj := .cells (hashCells sl rest n).toArray 145
theorem hash_state {sl rest : List Int} {n : Int} {i : Nat} (h : i < sl.length) : (hashCells sl rest n).toArray[i]? = some (.int .u32 (sl.getD i 0)) := by
  simp [hashCells, List.getElem?_append_left, h, List.getD_eq_getElem?_getD]
theorem hash_rest {sl rest : List Int} {n : Int} {i : Nat} (hs : sl.length = 8) (h : i < rest.length) : (hashCells sl rest n).toArray[8 + i]? = some (.int .u8 (rest.getD i 0)) := by
  simp only [hashCells, List.getElem?_toArray]
  rw [List.getElem?_append_right (by simp; omega), List.length_map, hs, Nat.add_sub_cancel_left, List.getElem?_append_left (by simpa using h)]
  simp [h, List.getD_eq_getElem?_getD]
theorem hash_taken {sl rest : List Int} {n : Int} (hs : sl.length = 8) (hr : rest.length = 64) : (hashCells sl rest n).toArray[72]? = some (.int .i64 n) := by
  simp only [hashCells, List.getElem?_toArray]
  rw [List.getElem?_append_right (by simp; omega), List.length_map, hs, List.getElem?_append_right (by simp; omega), List.length_map, hr]
  rfl
theorem hash_set {sl rest : List Int} {n : Int} {i : Nat} (h : i < sl.length) (x : Int) : (hashCells sl rest n).toArray.setIfInBounds i (.int .u32 x) = (hashCells (sl.set i x) rest n).toArray := by
  simp only [hashCells, List.setIfInBounds_toArray]
  congr 1
  rw [List.set_append_left _ _ (by simpa using h)]
  unfold kv
  rw [List.map_set]
theorem hash_size {sl rest : List Int} {n : Int} (hs : sl.length = 8) (hr : rest.length = 64) : (hashCells sl rest n).toArray.size = 73 := by
  simp [hashCells, hs, hr]
theorem list_len (s : St) : s.list.length = 8 := rfl
/-- Of two states the first k numbers of the one, the others of the other. -/
def mix (x y : St) (k : Nat) : List Int := y.list.take k ++ x.list.drop k
theorem mix_len (x y : St) (k : Nat) (h : k ≤ 8) : (mix x y k).length = 8 := by simp [mix, list_len]; omega
theorem mix_zero (x y : St) : mix x y 0 = x.list := by simp [mix]
theorem mix_full (x y : St) : mix x y 8 = y.list := by simp [mix, St.list]
theorem mix_get (x y : St) (k : Nat) (h : k < 8) : (mix x y k).getD k 0 = x.list.getD k 0 := by
  match k, h with
  | 0, _ => rfl
  | 1, _ => rfl
  | 2, _ => rfl
  | 3, _ => rfl
  | 4, _ => rfl
  | 5, _ => rfl
  | 6, _ => rfl
  | 7, _ => rfl
theorem mix_set (x y : St) (k : Nat) (h : k < 8) (v : Int) (hv : v = y.list.getD k 0) : (mix x y k).set k v = mix x y (k + 1) := by
  subst hv
  match k, h with
  | 0, _ => rfl
  | 1, _ => rfl
  | 2, _ => rfl
  | 3, _ => rfl
  | 4, _ => rfl
  | 5, _ => rfl
  | 6, _ => rfl
  | 7, _ => rfl
theorem add_get (x y : St) (k : Nat) (h : k < 8) : (x.add y).list.getD k 0 = (x.list.getD k 0 + y.list.getD k 0) % 4294967296 := by
  match k, h with
  | 0, _ => exact w32_mod _
  | 1, _ => exact w32_mod _
  | 2, _ => exact w32_mod _
  | 3, _ => exact w32_mod _
  | 4, _ => exact w32_mod _
  | 5, _ => exact w32_mod _
  | 6, _ => exact w32_mod _
  | 7, _ => exact w32_mod _
theorem index68 (x : St) (k : Nat) (h : k < 8) (w : World) :
    (Instr.index 142 (.agg #[.int .u32 x.a, .int .u32 x.b, .int .u32 x.c, .int .u32 x.d, .int .u32 x.e, .int .u32 x.f, .int .u32 x.g, .int .u32 x.h]) (.int .i64 k)).run Tryd.prog w = .ok (.int .u32 (x.list.getD k 0)) w := by
  have i0 : ∀ a b c d e f g h : Int, (Instr.index 142 (.agg #[.int .u32 a, .int .u32 b, .int .u32 c, .int .u32 d, .int .u32 e, .int .u32 f, .int .u32 g, .int .u32 h]) (.int .i64 0)).run Tryd.prog w = .ok (.int .u32 a) w := fun _ _ _ _ _ _ _ _ => by kernel_rfl
  have i1 : ∀ a b c d e f g h : Int, (Instr.index 142 (.agg #[.int .u32 a, .int .u32 b, .int .u32 c, .int .u32 d, .int .u32 e, .int .u32 f, .int .u32 g, .int .u32 h]) (.int .i64 1)).run Tryd.prog w = .ok (.int .u32 b) w := fun _ _ _ _ _ _ _ _ => by kernel_rfl
  have i2 : ∀ a b c d e f g h : Int, (Instr.index 142 (.agg #[.int .u32 a, .int .u32 b, .int .u32 c, .int .u32 d, .int .u32 e, .int .u32 f, .int .u32 g, .int .u32 h]) (.int .i64 2)).run Tryd.prog w = .ok (.int .u32 c) w := fun _ _ _ _ _ _ _ _ => by kernel_rfl
  have i3 : ∀ a b c d e f g h : Int, (Instr.index 142 (.agg #[.int .u32 a, .int .u32 b, .int .u32 c, .int .u32 d, .int .u32 e, .int .u32 f, .int .u32 g, .int .u32 h]) (.int .i64 3)).run Tryd.prog w = .ok (.int .u32 d) w := fun _ _ _ _ _ _ _ _ => by kernel_rfl
  have i4 : ∀ a b c d e f g h : Int, (Instr.index 142 (.agg #[.int .u32 a, .int .u32 b, .int .u32 c, .int .u32 d, .int .u32 e, .int .u32 f, .int .u32 g, .int .u32 h]) (.int .i64 4)).run Tryd.prog w = .ok (.int .u32 e) w := fun _ _ _ _ _ _ _ _ => by kernel_rfl
  have i5 : ∀ a b c d e f g h : Int, (Instr.index 142 (.agg #[.int .u32 a, .int .u32 b, .int .u32 c, .int .u32 d, .int .u32 e, .int .u32 f, .int .u32 g, .int .u32 h]) (.int .i64 5)).run Tryd.prog w = .ok (.int .u32 f) w := fun _ _ _ _ _ _ _ _ => by kernel_rfl
  have i6 : ∀ a b c d e f g h : Int, (Instr.index 142 (.agg #[.int .u32 a, .int .u32 b, .int .u32 c, .int .u32 d, .int .u32 e, .int .u32 f, .int .u32 g, .int .u32 h]) (.int .i64 6)).run Tryd.prog w = .ok (.int .u32 g) w := fun _ _ _ _ _ _ _ _ => by kernel_rfl
  have i7 : ∀ a b c d e f g h : Int, (Instr.index 142 (.agg #[.int .u32 a, .int .u32 b, .int .u32 c, .int .u32 d, .int .u32 e, .int .u32 f, .int .u32 g, .int .u32 h]) (.int .i64 7)).run Tryd.prog w = .ok (.int .u32 h) w := fun _ _ _ _ _ _ _ _ => by kernel_rfl
  match k, h with
  | 0, _ => exact i0 ..
  | 1, _ => exact i1 ..
  | 2, _ => exact i2 ..
  | 3, _ => exact i3 ..
  | 4, _ => exact i4 ..
  | 5, _ => exact i5 ..
  | 6, _ => exact i6 ..
  | 7, _ => exact i7 ..
end Go.Proofs.YtpljjmdkagbjpaaDoor
