/-
  The document's Out: Bytes.
-/
import Derived.Test.YtgpjffchpppceaaOutM
namespace Go.Proofs.Ytgpjffchpppceaa
open Go.RowKit

set_option maxHeartbeats 800000 in
theorem rbytes_any (M : Nat) (v : Value) (l : List Int) (f : Bool) (w : World) (h : HoldsB w M v l) :
    Calls Try.prog 12 #[routV v f] w fun r w' => r = .returned (.tuple #[if f then .slice none 0 0 else v, .int .i64 (if f then 8 else 0)]) ∧ Below w.heap.size w w' := by
  obtain ⟨a, m, cap, rfl, -⟩ := h.slice
  have HB : Hid (Below w.heap.size w (w.alloc (.cells #[.slice a m cap, .bool f] 28))) := more (Below.refl _ _) _
  clear h
  cases f with
  | true =>
    go_enter Try.func12, Try.ntmps12
    go_wp2_with fail
    go_ret2
    exact ⟨rfl, HB.out⟩
  | false =>
    go_enter Try.func12, Try.ntmps12
    go_wp2_with fail
    go_ret2
    exact ⟨rfl, HB.out⟩
end Go.Proofs.Ytgpjffchpppceaa
