/-
  The contracts of In's beginning and end.
-/
import Derived.Test.YtlgcpfeaecpocaaInC
namespace Go.Proofs.Ytlgcpfeaecpocaa
open Go.RowKit

set_option maxHeartbeats 800000 in
theorem takeI_any (M : Nat) (v : Value) (l : List Int) (w : World) (h : HoldsB w M v l) (hr : l.length ≤ 140737488351232) :
    Calls Try.prog 32 #[v] w fun r w' => ∃ I, r = .returned (.pointer (some ⟨I, 0, none⟩)) ∧ w.heap.size ≤ I ∧ InIs w' I I l 0 ∧ Below w.heap.size w w' := by
  have HH := Lib.hid h
  obtain ⟨a, n, cap, rfl, hn⟩ := h.slice
  clear h hn
  go_enter Try.func32, Try.ntmps32
  go_wp2_with fail
  refine (clone_anyF M _ l _ HH.out hr).mono ?_
  rintro r w1 ⟨v, rfl, ho, hb⟩
  have HV := Lib.hid (HoldsB.ofRow HH.out.bytes ho)
  have HB := Lib.hid hb
  obtain ⟨a1, n1, cap1, rfl, -⟩ := HV.out.slice
  clear ho hb
  go_wp2_with fail
  go_ret
  exact ⟨w1.heap.size, rfl, HB.out.size, ⟨Nat.le_refl _, ⟨_, HV.out.alloc _, Blk.new _ _⟩, fun h => absurd rfl h⟩, more HB.out _⟩

/-- What End answers. -/
def endE (l : List Int) (e : Int) : Int := if 0 < l.length then failE e 10 else e

set_option maxHeartbeats 800000 in
theorem endI_any (M I : Nat) (l : List Int) (e : Int) (w : World) (h : InIs w M I l e) :
    Calls Try.prog 36 #[.pointer (some ⟨I, 0, none⟩)] w fun r w' => r = .returned (.int .i64 (endE l e)) ∧ ∃ l', InStep M I l' (endE l e) w w' := by
  have HH := Lib.hid h
  clear h
  by_cases hl : 0 < l.length
  · have HE : Hid (endE l e = failE e 10) := by unfold Hid endE; rw [if_pos hl]
    go_enter Try.func36, Try.ntmps36
    go_wp2_with fail
    refine (left_any M I l e _ HH.out).mono ?_
    rintro r w1 ⟨rfl, rfl⟩
    go_wp2_with fail
    refine (fail_any M I l e 10 _ HH.out).mono ?_
    rintro r w1 ⟨rfl, h1⟩
    have H1 := Lib.hid h1
    clear h1
    go_wp2_with fail
    refine (err_any M I _ _ _ H1.out.is).mono ?_
    rintro r w2 ⟨rfl, rfl⟩
    go_wp2_with fail
    go_ret
    exact ⟨reti HE.out.symm, _, by rw [HE.out]; exact H1.out⟩
  · have HE : Hid (endE l e = e) := by unfold Hid endE; rw [if_neg hl]
    have hl' : l.length = 0 := by omega
    have hl2 : (l.length : Int) ≤ 0 := by omega
    clear hl'
    go_enter Try.func36, Try.ntmps36
    go_wp2_with fail
    refine (left_any M I l e _ HH.out).mono ?_
    rintro r w1 ⟨rfl, rfl⟩
    go_wp2_with fail
    refine (err_any M I _ _ _ HH.out).mono ?_
    rintro r w2 ⟨rfl, rfl⟩
    go_wp2_with fail
    go_ret
    exact ⟨reti HE.out.symm, _, by rw [HE.out]; exact InStep.same HH.out⟩
end Go.Proofs.Ytlgcpfeaecpocaa
