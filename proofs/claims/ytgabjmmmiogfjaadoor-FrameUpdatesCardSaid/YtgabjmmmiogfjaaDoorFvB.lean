/-
  FrameUpdates for what came in.
-/
import Derived.Test.YtgabjmmmiogfjaaDoorFvA
import Derived.Lib.SmallJoins
namespace Go.Proofs.YtgabjmmmiogfjaaDoor
open Go.ChangeShapes Go.WideShapes Go.ChangeAt Go.RowKit Go.Deep Go.Joins

theorem row_reachU {H : Type} {enc : TypeId × Value → H} {W : World} {a : Option Addr} {len cap : Nat} {d : DataW H} {p : List MemPlace}
    (k : DataW.Trod enc Tryd.prog W 0 (fun _ => true) true 24 (.slice a len cap) d p) {ts : List TypeId} {ds : List (DataW H)} {j : Nat}
    (hs : (DataW.weightsEach Tryd.prog ts ds).all (· ≤ reachBytes) = true) (ht : ts[j]? = some 24) (hd : ds[j]? = some d) : len ≤ 140737488351232 := by
  have hb5 : Tryd.prog.bytesOf 5 = 1 := by kernel_rfl
  obtain ⟨fuel, hf⟩ := k
  rcases open_slice1 Tryd.underlying24 (by kernel_rfl) hf with ⟨hcs, _⟩ | ⟨x, l, c, m, n, V, D, Pl, hcs, hb, hl, hm, hmm, hx, hi⟩
  · simp [Value.cells] at hcs
    obtain ⟨rfl, rfl, rfl⟩ := hcs
    omega
  · simp [Value.cells] at hcs
    obtain ⟨rfl, rfl, rfl⟩ := hcs
    simp only [Prod.mk.injEq] at hx
    rw [hx.1] at hd
    have := sized_slice hs ht hd Tryd.underlying24
    rw [hb5] at this
    simp only [List.length_map, List.length_range, reachBytes] at this
    omega
theorem frameUpdates_walk (u : Bool) (a : Option Addr) (n c : Nat) (f : Nat → E3) (va : Option Addr) (len cap : Nat) (B : List Int) (w : World) (hf : HoldsO w a n f) (h : HoldsB w w.heap.size (.slice va len cap) B) (hr : len ≤ 140737488351232) (hk : KonIs w) :
    Calls Tryd.prog 6 #[.agg #[.bool u, .slice a n c], .slice va len cap] w fun r w' => r = .returned (.bool true) ∧ Below w.heap.size w w' :=
  updates_walk u a n c f va len cap B w hf h (by
    obtain ⟨a1, n1, c1, e1, e2⟩ := h.slice
    simp only [Value.slice.injEq] at e1
    omega) hk
end Go.Proofs.YtgabjmmmiogfjaaDoor
