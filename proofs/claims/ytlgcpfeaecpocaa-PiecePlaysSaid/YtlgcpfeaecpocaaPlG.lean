/-
  What the document's joiner waits for; how the two joiners go together.
-/
import Derived.Test.YtlgcpfeaecpocaaPlF
import Derived.Test.YtlgcpfeaecpocaaPjB
namespace Go.Proofs.Ytlgcpfeaecpocaa
open Go.RowKit

set_option maxRecDepth 100000 in
set_option maxHeartbeats 4000000 in
theorem rwaits_any (B : Nat) (R : RJ) (v : Value) (w : World) (h : QRow w B v R.ps) :
    Calls Try.prog 22 #[.agg (rjc R v)] w fun r w' => r = .returned (.tuple #[.int .i64 (if R.any = false ∨ R.over = true then (0 : Int) else ((R.ps.length : Nat) : Int)), .int .i64 (if R.any = false ∨ R.over = true then 0 else R.many)]) ∧ Below w.heap.size w w' := by
  obtain ⟨va, n, vc, rfl, hn⟩ := h.shape
  rw [← hn]
  clear hn h
  obtain ⟨any, over, id, many, ps⟩ := R
  simp only []
  cases any with
  | false =>
    rw [if_pos (.inl rfl), if_pos (.inl rfl)]
    go_enter Try.func22, Try.ntmps22
    go_wp2_with fail
    exact bodyPost_ret (results_tmp2 rfl _ _ _) rfl ⟨rfl, more (Below.refl _ _) _⟩
  | true =>
    cases over with
    | true =>
      rw [if_pos (.inr rfl), if_pos (.inr rfl)]
      go_enter Try.func22, Try.ntmps22
      go_wp2_with fail
      exact bodyPost_ret (results_tmp2 rfl _ _ _) rfl ⟨rfl, more (Below.refl _ _) _⟩
    | false =>
      rw [if_neg (by decide), if_neg (by decide)]
      go_enter Try.func22, Try.ntmps22
      go_wp2_with fail
      go_quiet (fail)
      go_wp2_with fail
      exact bodyPost_ret (results_tmp2 rfl _ _ _) rfl ⟨rfl, below_drewN (more (Below.refl _ _) _) _⟩
/-- The two joiners stand alike. -/
structure JR (J : PjM) (R : RJ) : Prop where
  any : J.began = R.any
  id : R.any = true → J.id = R.id
  new : R.any = false → J.ps = [] ∧ R.ps = [] ∧ R.many ≤ 32
  over : R.any = true → R.over = true → J.ps = [] ∧ R.ps.length ≤ 32
  on : R.any = true → R.over = false → R.many = J.ps.length ∧ haves J.ps = R.ps.length ∧ R.ps.length < J.ps.length ∧ lens J.ps = lensR R.ps ∧ ∀ (k : Nat) (x : PtV), J.ps[k]? = some x → x.there = (findP R.ps k).isSome ∧ x.l = textAt R.ps k
  small : R.ps.length ≤ 32 ∧ (∀ x ∈ R.ps, x.l.length ≤ 4096) ∧ R.many ≤ 32
end Go.Proofs.Ytlgcpfeaecpocaa
