/-
  How long a slice of bytes that came in can be; FrameOpens for what came in.
-/
import Derived.Test.YtgabjmmmiogfjaaDoorFrW
import Derived.SizedLaws
namespace Go.Proofs.YtgabjmmmiogfjaaDoor
open Go.ChangeShapes Go.WideShapes Go.ChangeAt Go.RowKit Go.Deep

theorem row_reach {H : Type} {enc : TypeId × Value → H} {W : World} {a : Option Addr} {len cap : Nat} {d : DataW H} {p : List MemPlace}
    (k : DataW.Trod enc Tryd.prog W 0 (fun _ => true) true 24 (.slice a len cap) d p) {ts : List TypeId} {ds : List (DataW H)} {j : Nat}
    (hs : (DataW.weightsEach Tryd.prog ts ds).all (· ≤ reachBytes) = true) (ht : ts[j]? = some 24) (hd : ds[j]? = some d) : len ≤ 140737488351232 := by
  have hb5 : Tryd.prog.bytesOf 5 = 1 := by kernel_rfl
  obtain ⟨fuel, hf⟩ := k
  rcases open_slice1 Tryd.underlying24 (by kernel_rfl) hf with ⟨hcs, _⟩ | ⟨x, l, c, m, n, V, D, Pl, hcs, hb, hl, hm, hmm, hx, hi⟩
  · simp [Value.cells] at hcs
    obtain ⟨rfl, rfl, rfl⟩ := hcs
    omega
  · simp [Value.cells] at hcs
    obtain ⟨rfl, rfl, rfl⟩ := hcs
    simp only [Prod.mk.injEq] at hx
    rw [hx.1] at hd
    have := sized_slice hs ht hd Tryd.underlying24
    rw [hb5] at this
    simp only [List.length_map, List.length_range, reachBytes] at this
    omega
theorem frameOpens_walk (key : List Int) (a : Option Addr) (len cap : Nat) (l : List Int) (w : World) (l0 : key.length = 32) (b0 : Bytes key) (h : HoldsB w w.heap.size (.slice a len cap) l) (hr : len ≤ 140737488351232) (hk : KonIs w) :
    Calls Tryd.prog 4 #[.agg (kv .u8 key).toArray, .slice a len cap] w fun r w' => r = .returned (.bool true) ∧ Below w.heap.size w w' :=
  opens_walk key l _ w hk ⟨l0, b0⟩ h (by
    obtain ⟨a1, n1, c1, e1, e2⟩ := h.slice
    simp only [Value.slice.injEq] at e1
    omega)
end Go.Proofs.YtgabjmmmiogfjaaDoor
