/-
  A nil joiner: the walk.
-/
import Derived.Test.YtlgcpfeaecpocaaPcN
namespace Go.Proofs.Ytlgcpfeaecpocaa
open Go.RowKit

set_option maxRecDepth 100000 in
set_option maxHeartbeats 2000000 in
theorem pieceNil_walk (p : PV) (tp : List Int) (w : World) (h : HoldsB w w.heap.size (.slice p.a p.n p.c) tp) (_ : 0 ≤ p.id ∧ p.id ≤ 4294967295) (_ : I64 p.at_ ∧ I64 p.many) (hl : tp.length ≤ 140737488351232) : Calls Try.prog 7 #[p.v] w fun e w' => e = .returned (.bool true) ∧ Below w.heap.size w w' := by
  have H := Kp.mk h
  clear h
  go_enter Try.func7, Try.ntmps7
  go_wp2_with fail
  refine (to_any p tp _ (H.out.grow (more (Below.refl _ _) _)) hl).mono ?_
  rintro r w1 ⟨a, c, rfl, ho, hb⟩
  have HB1 : Kp (Below w.heap.size w w1) := ⟨(more (Below.refl _ _) _).trans (hb.mono (by simp))⟩
  clear ho hb
  go_wp2_with fail
  refine (take_nil ⟨p.id, p.at_, p.many, a, p.n, c⟩ w1).mono ?_
  rintro r w2 ⟨rfl, hb⟩
  have HB2 : Kp (Below w.heap.size w w2) := ⟨HB1.out.trans (hb.mono HB1.out.size)⟩
  clear hb
  go_wp2_with fail
  refine (waits_nil w2).mono ?_
  rintro r w3 ⟨rfl, rfl⟩
  go_wp2_with fail
  refine (awake_any w2).mono ?_
  rintro r w3 ⟨rfl, hb⟩
  have HB3 : Kp (Below w.heap.size w w3) := ⟨HB2.out.trans (hb.mono HB2.out.size)⟩
  clear hb
  go_wp2_with fail
  go_ret
  exact ⟨rfl, HB3.out⟩
end Go.Proofs.Ytlgcpfeaecpocaa
