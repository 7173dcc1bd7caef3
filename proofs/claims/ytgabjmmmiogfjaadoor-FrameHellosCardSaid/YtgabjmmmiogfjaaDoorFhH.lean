/-
  A Hello that came in; FrameHellos for what came in.
-/
import Derived.Test.YtgabjmmmiogfjaaDoorFhG
import Derived.Lib.SmallJoins
namespace Go.Proofs.YtgabjmmmiogfjaaDoor
open Go.ChangeShapes Go.WideShapes Go.ChangeAt Go.RowKit Go.Deep Go.Joins

theorem row_reachH {H : Type} {enc : TypeId × Value → H} {W : World} {a : Option Addr} {len cap : Nat} {d : DataW H} {p : List MemPlace}
    (k : DataW.Trod enc Tryd.prog W 0 (fun _ => true) true 24 (.slice a len cap) d p) {ts : List TypeId} {ds : List (DataW H)} {j : Nat}
    (hs : (DataW.weightsEach Tryd.prog ts ds).all (· ≤ reachBytes) = true) (ht : ts[j]? = some 24) (hd : ds[j]? = some d) : len ≤ 140737488351232 := by
  have hb5 : Tryd.prog.bytesOf 5 = 1 := by kernel_rfl
  obtain ⟨fuel, hf⟩ := k
  rcases open_slice1 Tryd.underlying24 (by kernel_rfl) hf with ⟨hcs, _⟩ | ⟨x, l, c, m, n, V, D, Pl, hcs, hb, hl, hm, hmm, hx, hi⟩
  · simp [Value.cells] at hcs
    obtain ⟨rfl, rfl, rfl⟩ := hcs
    omega
  · simp [Value.cells] at hcs
    obtain ⟨rfl, rfl, rfl⟩ := hcs
    simp only [Prod.mk.injEq] at hx
    rw [hx.1] at hd
    have := sized_slice hs ht hd Tryd.underlying24
    rw [hb5] at this
    simp only [List.length_map, List.length_range, reachBytes] at this
    omega
theorem u8_of {n : Int} (h : (Lit.int .u8 n).wf = true) : 0 ≤ n ∧ n ≤ 255 := by
  have h1 : IntKind.u8.min = 0 := rfl
  have h2 : IntKind.u8.max = 255 := rfl
  simp [Lit.wf, h1, h2] at h
  exact h
theorem cells69 : Tryd.prog.cellsOf 69 = 2 := by kernel_rfl
set_option maxRecDepth 100000 in
theorem hello_open {H : Type} {enc : TypeId × Value → H} {W : World} {b0 : Nat} {v : Value} {d : DataW H} {p : List MemPlace} (hv : Value.okWide Tryd.prog W .any b0 69 v)
    (k : DataW.Trod enc Tryd.prog W 0 (fun _ => true) true 69 v d p) : ∃ (hd : Int) (a : Option Addr) (n c : Nat) (l : List Int), v = .agg #[.int .u8 hd, .slice a n c] ∧ (0 ≤ hd ∧ hd ≤ 255) ∧ HoldsU W W.heap.size (.slice a n c) l := by
  obtain ⟨c0, c1, y0, y1, m, rfl, e, q, hy0, hy1⟩ := open_agg2 Tryd.underlying69 (by kernel_rfl) cells69 hv k
  obtain ⟨x0, e0, -, w0⟩ := DataW.trod_int Tryd.underlying5 hy0
  simp only [List.cons.injEq, and_true] at e0
  subst e0
  have hsh : ∃ a n c, c1 = .slice a n c := by
    rcases DataW.trod_slice Tryd.underlying67 hy1 with ⟨h1, _⟩ | ⟨a, len, cap, _, _, _, _, h1, _⟩
    · simp at h1; exact ⟨_, _, _, h1⟩
    · simp at h1; exact ⟨_, _, _, h1⟩
  obtain ⟨a, n, c, rfl⟩ := hsh
  obtain ⟨d1, pl⟩ := y1
  obtain ⟨l, hl⟩ := row_u32s (show DataW.Trod enc Tryd.prog W 0 (fun _ => true) true 67 (.slice a n c) d1 pl from ⟨_, hy1⟩)
  exact ⟨x0, a, n, c, l, rfl, u8_of w0, hl⟩
theorem frameHellos_walk (hd : Int) (a : Option Addr) (n c : Nat) (l : List Int) (va : Option Addr) (len cap : Nat) (B : List Int) (w : World) (hhd : 0 ≤ hd ∧ hd ≤ 255) (hu : HoldsU w w.heap.size (.slice a n c) l) (h : HoldsB w w.heap.size (.slice va len cap) B) (hr : len ≤ 140737488351232) (hk : KonIs w) :
    Calls Tryd.prog 7 #[.agg #[.int .u8 hd, .slice a n c], .slice va len cap] w fun r w' => r = .returned (.bool true) ∧ Below w.heap.size w w' :=
  hellos_walk hd a n c l B _ w hk hhd hu h (by
    obtain ⟨a1, n1, c1, e1, e2⟩ := h.slice
    simp only [Value.slice.injEq] at e1
    omega)
end Go.Proofs.YtgabjmmmiogfjaaDoor
