/-
  The contract of bytes.Clone: what is handed back is new memory, nil of nil.
-/
import Derived.Test.YtgpjffchpppceaaBase
namespace Go.Proofs.Ytgpjffchpppceaa
open Go.RowKit

set_option maxHeartbeats 800000 in
theorem clone_any (M : Nat) (v : Value) (l : List Int) (w : World) (h : HoldsB w M v l) (hr : l.length ≤ 140737488351232) :
    Calls Try.prog 42 #[v] w fun r w' => ∃ v', r = .returned v' ∧ w'.ownsRow w.heap.size 5 1 v' l.length (bv l) ∧ Below w.heap.size w w' := by
  obtain ⟨i0, hi, hz0, hz1, hz2⟩ := info_parts info5
  have q26 : ∀ (w : World) (a : Option Addr) (n c n' c' : Nat), (binOp .eql 26 (.slice a n c) (.slice none n' c')).run Try.prog w = .ok (.bool a.isNone) w := fun w a n c n' c' => Lib.run_eql_slice_nil w _ _ a n c n' c' Try.underlying26
  obtain ⟨a, n, cap, rfl, hn⟩ := h.slice
  cases a with
  | none =>
    have hl : l = [] := by
      obtain ⟨a', cap', h1, h2, h3, h4, h5, h6, h7⟩ := h
      simp only [Value.slice.injEq] at h1
      have := h4 h1.1.symm
      exact List.length_eq_zero_iff.1 (by omega)
    have hc : cap = 0 := by
      obtain ⟨a', cap', h1, h2, h3, h4, h5, h6, h7⟩ := h
      simp only [Value.slice.injEq] at h1
      have := h4 h1.1.symm
      omega
    subst hl hc
    have hn0 : n = 0 := by simpa using hn
    subst hn0
    clear h hn
    go_enter Try.func42, Try.ntmps42
    go_wp2_with fail
    go_ret
    exact ⟨_, rfl, World.ownsRow_nil _ _ _ _, Below.refl _ _⟩
  | some ad =>
    have HH := Lib.hid h
    have HN := Lib.hid hn
    have hn2 : n ≤ 140737488351232 := by omega
    clear h hn hr
    go_enter Try.func42, Try.ntmps42
    go_wp2_with (at_builtin; refine wpList_append_own _ rfl _ _ 26 rfl w.heap.size 5 i0 (.int .u8 0) 1 1 Try.underlying26 hi hz0 hz1 hz2 rfl (by decide) _ _ _ rfl (World.ownsRow_made w #[] 0 (Nat.le_refl _) (by decide) rfl) ad n cap (bv l) rfl ?c0 ?c1 ?c2 ?c3 ?c4 ?c5 ?_)
    case c0 => rw [bv_len, HN.out]
    case c1 => exact (HH.out.alloc _).news
    case c2 => exact bv_one _
    case c3 => unfold maxLen; omega
    case c4 => omega
    case c5 => simp
    · intro v' w2 hown' hgrow _
      have HO2 := Lib.hid hown'
      have HG2 := Lib.hid hgrow
      clear hown' hgrow
      go_wp2_with fail
      go_ret
      refine ⟨_, rfl, ?_, (more (Below.refl _ _) _).grown HG2.out (by simp) (fun k hk => ?_)⟩
      · have h1 := HO2.out
        have h2 := HN.out
        subst h2
        exact h1
      · simp [Value.ownBlock] at hk
        omega
end Go.Proofs.Ytgpjffchpppceaa
