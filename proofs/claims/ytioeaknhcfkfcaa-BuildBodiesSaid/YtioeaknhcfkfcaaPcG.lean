/-
  A piece is kept.
-/
import Derived.Test.YtioeaknhcfkfcaaPcF
namespace Go.Proofs.Ytioeaknhcfkfcaa
open Go.RowKit

theorem predOp_val {P : Program} {ops : Array Oper} {o : Oper} {V : World → Value → Prop} {a : Act} {w : World} {v : Value} (hw : Region.wanted o (yielded ops a.tmps) = true) (he : (execOp a.eval o).run P w = .ok (.value v) w) (hv : V w v) : PredOp P ops o V a w := Or.inl ⟨hw, predRun_value he hv⟩
def noPt : PtV := ⟨false, .slice none 0 0, []⟩
def keepE (J : PjM) (i : Nat) (tp : List Int) : Int :=
  if (J.ps.getD i noPt).there = true then (if (J.ps.getD i noPt).l = tp then 0 else 7) else if 16384 < lens J.ps + tp.length then 8 else 0
def keepJ (J : PjM) (i : Nat) (tp : List Int) (v : Value) : PjM :=
  if (J.ps.getD i noPt).there = true then J else if 16384 < lens J.ps + tp.length then ⟨true, J.id, []⟩ else { J with ps := J.ps.set i ⟨true, v, tp⟩ }
def NewV (b : Nat) (v : Value) : Prop := ∀ k, v.ownBlock = some k → b ≤ k
theorem NewV.of {w : World} {base n : Nat} {v : Value} {xs : List Value} (h : w.ownsRow base 5 1 v n xs) : NewV base v := fun k hk => by
  rcases h.2 with ⟨rfl, _⟩ | ⟨g, cap, cur, rfl, hg, _⟩
  · cases hk
  · cases hk
    exact hg
theorem NewV.undef (b : Nat) : NewV b undef := fun k hk => by cases hk
theorem NewV.none (b n c : Nat) : NewV b (.slice none n c) := fun k hk => by cases hk
theorem NewV.mono {b b' : Nat} {v : Value} (h : NewV b v) (hb : b' ≤ b) : NewV b' v := fun k hk => Nat.le_trans hb (h k hk)
def KeepPost (g q i : Nat) (J : PjM) (tp : List Int) (w : World) (r : Ending) (w' : World) : Prop :=
  ∃ v', r = .returned (.int .i64 (keepE J i tp)) ∧ JStep g q q (keepJ J i tp v') w w' ∧ NewV w.heap.size v'
end Go.Proofs.Ytioeaknhcfkfcaa
