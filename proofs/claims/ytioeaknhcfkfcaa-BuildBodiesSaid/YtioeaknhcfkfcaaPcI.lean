/-
  A joiner takes a piece.
-/
import Derived.Test.YtioeaknhcfkfcaaPcH
namespace Go.Proofs.Ytioeaknhcfkfcaa
open Go.RowKit

theorem info30s : (Try.prog.info? 103).map (·.size) = some 4 := by kernel_rfl
theorem jno (j : JV) : ∀ (i : Nat) (z : Int), (#[.bool j.began, .int .u32 j.id, .slice j.a j.n j.c] : Array Value)[i]? ≠ some (.int .u8 z) := by
  intro i z
  match i with
  | 0 => simp
  | 1 => simp
  | 2 => simp
  | i + 3 => simp
theorem texts_bytes {ps : List PtV} (h : ∀ x ∈ ps, Bytes x.l) : Bytes (texts ps) := by
  intro z hz
  unfold texts at hz
  obtain ⟨l, hl, hz⟩ := List.mem_flatten.1 hz
  obtain ⟨x, hx, rfl⟩ := List.mem_map.1 hl
  exact h x hx z hz
theorem JStep.fresh {g q b m : Nat} {pid : Int} {J : PjM} {w w9 w10 : World} (h : JIs w g q J) (hb : Below w.heap.size w w9) (hz : Blk w9 b (.cells (pcells (List.replicate m noPt)).toArray 94)) (hlt : w.heap.size ≤ b)
    (ht : Turn g (.cells #[.bool true, .int .u32 pid, .slice (some ⟨b, 0, none⟩) m m] 87) w9 w10) (hm : 0 < m ∧ m ≤ 32) (hid : 0 ≤ pid ∧ pid ≤ 4294967295) : JStep g q b ⟨true, pid, List.replicate m noPt⟩ w w10 := by
  have hg := h.b.lt
  refine ⟨ht.os.trans hb.os, ht.tape.trans hb.tape, ht.output.trans hb.output, Nat.le_trans hb.size ht.size, ⟨?_, fun _ => ht.keep hz (by omega), fun x hx => ?_, by simpa using hm.2, hid⟩, fun k hk h1 _ => (ht.other k (Nat.lt_of_lt_of_le hk hb.size) h1).trans (hb.block k hk), .inr hlt⟩
  · simp only [List.length_replicate]
    rw [pa_some hm.1]
    exact ht.blk
  · rw [List.eq_of_mem_replicate hx]
    exact ⟨HoldsB.nil _ _, by simp [noPt]⟩
end Go.Proofs.Ytioeaknhcfkfcaa
