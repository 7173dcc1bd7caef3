/-
  The pieces of any body, of any size, or why there are none.
-/
import Derived.Test.YtlgcpfeaecpocaaPcS
namespace Go.Proofs.Ytlgcpfeaecpocaa
open Go.RowKit

set_option maxHeartbeats 1000000 in
theorem splits_long (id sz : Int) (a : Option Addr) (n cap : Nat) (w : World) (h : 20000 < n) :
    Calls Try.prog 4 #[.int .u32 id, .slice a n cap, .int .i64 sz] w fun r w' => r = .returned (.bool true) ∧ Below w.heap.size w w' := by
  have h1 : (20000 : Int) < n := by omega
  go_enter Try.func4, Try.ntmps4
  go_wp2_with fail
  refine (awake_any w).mono ?_
  rintro r w3 ⟨rfl, hb⟩
  have HB := Kp.mk hb
  clear hb
  go_wp2_with fail
  go_ret
  exact ⟨rfl, HB.out⟩
set_option maxHeartbeats 1000000 in
theorem splits_no (id sz e : Int) (a : Option Addr) (n cap : Nat) (w : World) (hn : n ≤ 20000)
    (h1 : Calls Try.prog 16 #[.int .u32 id, .slice a n cap, .int .i64 sz] w fun r w' => r = .returned (.tuple #[.slice none 0 0, .int .i64 e]) ∧ w = w')
    (h2 : Calls Try.prog 17 #[.int .u32 id, .slice a n cap, .int .i64 sz] w fun r w' => r = .returned (.tuple #[.slice none 0 0, .int .i64 e]) ∧ w = w') :
    Calls Try.prog 4 #[.int .u32 id, .slice a n cap, .int .i64 sz] w fun r w' => r = .returned (.bool true) ∧ Below w.heap.size w w' := by
  have hn2 : ¬ (20000 : Int) < n := by omega
  have H1 := Kp.mk h1
  have H2 := Kp.mk h2
  clear h1 h2
  have he : (e != e) = false := by simp
  go_enter Try.func4, Try.ntmps4
  go_wp2_with fail
  refine H1.out.mono ?_
  rintro r w1 ⟨rfl, rfl⟩
  go_wp2_with fail
  refine H2.out.mono ?_
  rintro r w1 ⟨rfl, rfl⟩
  go_wp2_with fail
  refine (awake_any w).mono ?_
  rintro r w3 ⟨rfl, hb⟩
  have HB := Kp.mk hb
  clear hb H1 H2
  go_wp2_with fail
  generalize w3 = W3 at *
  go_loopw [46] (fun c wr => c = .int .i64 0 ∧ wr = W3) (fun _ _ => 0)
  case atStart => exact ⟨rfl, rfl⟩
  case round =>
    obtain ⟨rfl, rfl⟩ := hrel
    go_wp2_with fail
    go_ret
    exact ⟨rfl, HB.out⟩
theorem pieceSplits_walk (id : Int) (a : Option Addr) (n cap : Nat) (bl : List Int) (sz : Int) (w : World) (_ : (Lit.int .u32 id).wf = true) (h : HoldsB w w.heap.size (.slice a n cap) bl) (_ : (Lit.int .i64 sz).wf = true) :
    Calls Try.prog 4 #[.int .u32 id, .slice a n cap, .int .i64 sz] w fun r w' => r = .returned (.bool true) ∧ Below w.heap.size w w' := by
  have hn : n = bl.length := by
    obtain ⟨a1, n1, c1, e1, e2⟩ := h.slice
    simp only [Value.slice.injEq] at e1
    omega
  by_cases h1 : 20000 < n
  · exact splits_long id sz a n cap w h1
  by_cases h2 : sz < 1 ∨ 4096 < sz ∨ 16384 < n
  · exact splits_no id sz 1 a n cap w (by omega) (split_bad id sz a n cap w (by omega) h2) (rsplit_bad id sz a n cap w (by omega) h2)
  obtain ⟨k, rfl⟩ : ∃ k : Nat, sz = k := ⟨sz.toNat, by omega⟩
  by_cases h3 : 32 < manyN n k
  · exact splits_no id k 8 a n cap w (by omega) (split_many id k n a cap w (by omega) (by omega) h3) (rsplit_many id k n a cap w (by omega) (by omega) h3)
  · exact splits_good id k a n cap bl w h (by omega) (by omega) (by rw [← hn]; omega)
end Go.Proofs.Ytlgcpfeaecpocaa
