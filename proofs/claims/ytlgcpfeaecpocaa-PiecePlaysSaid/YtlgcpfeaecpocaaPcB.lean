/-
  A joiner: whether a body is next, whether it is over, its end.
-/
import Derived.Test.YtlgcpfeaecpocaaPcA
import Derived.BigQuiet
namespace Go.Proofs.Ytlgcpfeaecpocaa
open Go.RowKit

theorem jcells {w : World} {g : Nat} {j : JV} (h : Blk w g (jObj j)) :
    (w.cell? ⟨g, 0, none⟩ = some (.bool j.began) ∧ w.cell? ⟨g, 1, none⟩ = some (.int .u32 j.id) ∧ w.cell? ⟨g, 2, none⟩ = some (.slice j.a j.n j.c)) ∧ ∀ i, w.frozen? ⟨g, i, none⟩ = false :=
  ⟨⟨h.cell 0, h.cell 1, h.cell 2⟩, fun i => h.frozen i⟩
set_option maxHeartbeats 800000 in
theorem isNext_any (g : Nat) (j : JV) (id : Int) (w : World) (h : Blk w g (jObj j)) : Calls Try.prog 42 #[jP g, .int .u32 id] w fun r w' => r = .returned (.bool (nextB j id)) ∧ w = w' := by
  obtain ⟨⟨c0, c1, c2⟩, -⟩ := jcells h
  clear h
  cases hb : j.began with
  | false =>
    have HE : Hid (nextB j id = true) := by unfold Hid nextB; rw [hb]; rfl
    rw [hb] at c0
    clear hb
    go_enter Try.func42, Try.ntmps42
    go_wp2_with fail
    go_ret
    exact ⟨retb HE.out.symm, rfl⟩
  | true =>
    rw [hb] at c0
    by_cases h1 : j.id < id
    · have HE : Hid (nextB j id = true) := by unfold Hid nextB; simp [h1]
      clear hb
      go_enter Try.func42, Try.ntmps42
      go_wp2_with fail
      go_ret
      exact ⟨retb HE.out.symm, rfl⟩
    · have HE : Hid (nextB j id = false) := by unfold Hid nextB; rw [hb]; simp [h1]
      clear hb
      go_enter Try.func42, Try.ntmps42
      go_wp2_with fail
      go_ret
      exact ⟨retb HE.out.symm, rfl⟩
theorem isOver_any (g : Nat) (j : JV) (w : World) (h : Blk w g (jObj j)) : Calls Try.prog 60 #[jP g] w fun r w' => r = .returned (.bool (decide (j.n = 0))) ∧ w = w' := by
  obtain ⟨⟨c0, c1, c2⟩, -⟩ := jcells h
  clear h
  by_cases h0 : j.n = 0
  · have HE : Hid (decide (j.n = 0) = true) := by unfold Hid; simp [h0]
    rw [h0] at c2
    clear h0
    go_enter Try.func60, Try.ntmps60
    go_wp2_with fail
    go_ret
    exact ⟨retb HE.out.symm, rfl⟩
  · have HE : Hid (decide (j.n = 0) = false) := by unfold Hid; simp [h0]
    have h0' : ((j.n : Int) == 0) = false := by simp; omega
    clear h0
    go_enter Try.func60, Try.ntmps60
    go_wp2_with fail
    go_ret
    exact ⟨retb HE.out.symm, rfl⟩
def endJ (j : JV) : JV := ⟨true, j.id, none, 0, 0⟩
set_option maxHeartbeats 800000 in
theorem end_any (g : Nat) (j : JV) (w : World) (h : Blk w g (jObj j)) : Calls Try.prog 45 #[jP g] w fun r w' => r = .returned (.tuple #[]) ∧ Turn g (jObj (endJ j)) w w' := by
  have HB := Lib.hid h
  obtain ⟨⟨c0, c1, c2⟩, hf⟩ := jcells h
  clear h
  go_enter Try.func45, Try.ntmps45
  go_wp2_with fail
  exact bodyPost_end (v := .tuple #[]) (results_none rfl _ _ _) rfl ⟨rfl, (((Turn.same HB.out).set 0 _).set 1 _).set 2 _⟩
set_option maxHeartbeats 800000 in
theorem new_one (w : World) : Calls Try.prog 18 #[] w fun r w' => r = .returned (jP w.heap.size) ∧ Blk w' w.heap.size (jObj ⟨false, 0, none, 0, 0⟩) ∧ Below w.heap.size w w' := by
  go_enter Try.func18, Try.ntmps18
  go_wp2_with fail
  go_ret
  exact ⟨rfl, Blk.new _ _, more (Below.refl _ _) _⟩
theorem look_nil (p : PV) (w : World) : Calls Try.prog 41 #[.pointer none, p.v] w fun r w' => r = .returned (.int .i64 2) ∧ Below w.heap.size w w' := by
  go_enter Try.func41, Try.ntmps41
  go_wp2_with fail
  go_ret
  exact ⟨rfl, more (Below.refl _ _) _⟩
theorem waits_nil (w : World) : Calls Try.prog 21 #[.pointer none] w fun r w' => r = .returned (.tuple #[.int .i64 0, .int .i64 0]) ∧ w = w' := by
  go_enter Try.func21, Try.ntmps21
  go_wp2_with fail
  exact bodyPost_ret (results_tmp2 rfl _ _ _) rfl ⟨rfl, rfl⟩
theorem take_nil (p : PV) (w : World) : Calls Try.prog 19 #[.pointer none, p.v] w fun r w' => r = .returned (.tuple #[.slice none 0 0, .bool false, .int .i64 2]) ∧ Below w.heap.size w w' := by
  go_enter Try.func19, Try.ntmps19
  go_wp2_with fail
  refine (look_nil p _).mono ?_
  rintro r w1 ⟨rfl, hb⟩
  have HB := Lib.hid hb
  clear hb
  go_wp2_with fail
  exact bodyPost_ret (results_tmp3 rfl _ _ _) rfl ⟨rfl, (more (Below.refl _ _) _).trans (HB.out.mono (by simp))⟩
end Go.Proofs.Ytlgcpfeaecpocaa
