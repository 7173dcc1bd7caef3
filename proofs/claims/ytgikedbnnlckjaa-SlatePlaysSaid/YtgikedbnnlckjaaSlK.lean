/-
  slate.New; reads of whatever place.
-/
import Derived.Test.YtgikedbnnlckjaaSlJ
import Derived.Laws.CopyOwn
namespace Go.Proofs.Ytgikedbnnlckjaa
open Go.RowKit

theorem read_any (g : Nat) (v : Value) (s : SlS) (a : Int) (w : World) (h : SlIs w g v s) (hq : s.q.length ≤ 1000000) : Calls Try.prog 14 #[slP g, .int .i64 a] w (ReadPost (readZ s a) (hasE s a) w) := by
  by_cases he : hasE s a = 0
  · obtain ⟨h1, h2, h3⟩ := hasE_zero he
    obtain ⟨k, rfl⟩ : ∃ k : Nat, a = k := ⟨a.toNat, by omega⟩
    have e : readZ s k = readL s k := by unfold readZ; rw [if_pos he]; rfl
    rw [e, he]
    exact read_yes g k v s w h he hq
  · have e : readZ s a = z64 := by unfold readZ; rw [if_neg he]
    rw [e]
    exact read_no g v s a w h he
theorem madeM (m n : Nat) (hm : 0 < m) : madeCells (kv .u8 (List.replicate m 0)).toArray n = (kv .u8 (List.replicate n 0)).toArray := by
  apply Array.ext_getElem?
  intro j
  by_cases hj : j < n
  · have h64 : j % m < m := Nat.mod_lt _ hm
    simp [madeCells, hj, h64]
  · simp [madeCells, hj]
theorem made64 (n : Nat) : madeCells (kv .u8 z64).toArray n = (kv .u8 (List.replicate n 0)).toArray := madeM 64 n (by decide)
theorem info35m : (Try.prog.info? 35).map (fun i => (i.zero, i.size, i.bytes)) = some (some (.agg (kv .u8 z64).toArray), 64, 64) := by kernel_rfl
/-- A row of n sectors. -/
theorem make69 (n : Nat) (hn : n ≤ 65535) (w : World) : (Instr.makeSlice 69 (.int .i64 n) (.int .i64 n)).run Try.prog w = .ok (.slice (some ⟨w.heap.size, 0, none⟩) n n) (w.alloc (.cells (kv .u8 (List.replicate (n * 64) 0)).toArray 35)) := by
  obtain ⟨i0, hi, hz0, hz1, hz2⟩ := info_parts info35m
  have h := run_make (P := Try.prog) w 69 35 i0 _ Try.underlying69 hi hz0 .i64 .i64 n n (by omega) (Int.le_refl _) (by rw [hz2]; omega) (by omega)
  rw [h, ← made64, hz1]
  simp [Value.cells, Int.toNat_natCast]
/-- A device at first. -/
def newS (n : Nat) : SlS := { n := n, ls := List.replicate (n * 64) 0, q := [], st := 0, fu := -1, dn := false }
theorem newS_ok {n : Nat} (h1 : 1 ≤ n) (h2 : n ≤ 4096) : (newS n).Ok :=
  ⟨⟨h1, h2⟩, by simp [newS], by intro x hx; rw [List.eq_of_mem_replicate hx]; omega, (fun x hx => by cases hx), by simp [newS], by simp [newS]⟩
theorem new_no (n : Int) (w : World) (h : n < 1 ∨ 4096 < n) : Calls Try.prog 9 #[.int .i64 n] w fun r w' => r = .returned (.tuple #[.pointer none, .int .i64 1]) ∧ w = w' := by
  rcases h with h | h
  · go_enter Try.func9, Try.ntmps9
    go_wp2_with fail
    go_ret2
    exact ⟨rfl, rfl⟩
  · have h' : ¬ n < 1 := by omega
    go_enter Try.func9, Try.ntmps9
    go_wp2_with fail
    go_ret2
    exact ⟨rfl, rfl⟩
set_option maxHeartbeats 400000 in
theorem new_any (n : Nat) (w : World) (h1 : 1 ≤ n) (h2 : n ≤ 4096) : Calls Try.prog 9 #[.int .i64 n] w fun r w' => r = .returned (.tuple #[slP w.heap.size, .int .i64 0]) ∧ SlIs w' w.heap.size (.slice none 0 0) (newS n) ∧ Below w.heap.size w w' := by
  have hm := make69 n (by omega)
  obtain ⟨zl, hzl⟩ : ∃ zl, zl = List.replicate (n * 64) (0 : Int) := ⟨_, rfl⟩
  rw [← hzl] at hm
  have HF : Kp (∀ W : World, W = (w.alloc (.cells (kv .u8 zl).toArray 35)).alloc (slObj w.heap.size (.slice none 0 0) (newS n)) → SlIs W w.heap.size (.slice none 0 0) (newS n) ∧ Below w.heap.size w W) := ⟨by
    rintro W rfl
    rw [hzl]
    refine ⟨⟨Blk.newAt _ (by simp), (Blk.new w _).old _, World.ownsRow_nil _ _ _ _, newS_ok h1 h2⟩, more (more (Below.refl _ _) _) _⟩⟩
  have g1 : ¬ (n : Int) < 1 := by omega
  have g2 : ¬ (4096 : Int) < n := by omega
  clear h1 h2 hzl
  go_enter Try.func9, Try.ntmps9
  go_wp2_with fail
  go_ret2
  exact ⟨rfl, HF.out _ rfl⟩
end Go.Proofs.Ytgikedbnnlckjaa
