/-
  A body's pieces, in whatever order: the walk (where there are none).
-/
import Derived.Test.YtlgcpfeaecpocaaPjC
import Derived.Test.YtlgcpfeaecpocaaPcM
namespace Go.Proofs.Ytlgcpfeaecpocaa
open Go.RowKit

def szN (size : Int) : Nat := 1 + ((IntKind.u64.wrap size) % 500).toNat
theorem szN_bd (size : Int) : 1 ≤ szN size ∧ szN size ≤ 500 := by
  unfold szN
  have h1 := Int.emod_nonneg (IntKind.u64.wrap size) (show (500 : Int) ≠ 0 by decide)
  have h2 := Int.emod_lt_of_pos (IntKind.u64.wrap size) (show (0 : Int) < 500 by decide)
  omega
theorem szN_rem (size : Int) : (IntKind.u64.wrap size).tmod 500 = ((szN size - 1 : Nat) : Int) := by
  have h0 : 0 ≤ IntKind.u64.wrap size := by simp [IntKind.wrap, IntKind.bits, IntKind.signed]; omega
  rw [Int.tmod_eq_emod_of_nonneg h0]
  unfold szN
  have h1 := Int.emod_nonneg (IntKind.u64.wrap size) (show (500 : Int) ≠ 0 by decide)
  omega
set_option maxRecDepth 100000 in
set_option maxHeartbeats 4000000 in
theorem joins_long (id size : Int) (a : Option Addr) (n cap : Nat) (ta ga fa : Option Addr) (tn tc gn gc fn fc : Nat) (w : World) (h : 5000 < n) :
    Calls Try.prog 6 #[.int .u32 id, .slice a n cap, .int .i64 size, .slice ta tn tc, .slice ga gn gc, .slice fa fn fc] w fun r w' => r = .returned (.bool true) ∧ Below w.heap.size w w' := by
  have h1 : (5000 : Int) < n := by omega
  go_enter Try.func6, Try.ntmps6
  go_wp2_with fail
  refine (awake_any w).mono ?_
  rintro r w3 ⟨rfl, hb⟩
  have HB := Kp.mk hb
  clear hb
  go_wp2_with fail
  go_ret
  exact ⟨rfl, HB.out⟩
set_option maxRecDepth 100000 in
set_option maxHeartbeats 4000000 in
theorem joins_many (id size : Int) (a : Option Addr) (n cap : Nat) (ta ga fa : Option Addr) (tn tc gn gc fn fc : Nat) (w : World) (h : n ≤ 5000) (hm : 32 < manyN n (szN size)) :
    Calls Try.prog 6 #[.int .u32 id, .slice a n cap, .int .i64 size, .slice ta tn tc, .slice ga gn gc, .slice fa fn fc] w fun r w' => r = .returned (.bool true) ∧ Below w.heap.size w w' := by
  have h1 : ¬ (5000 : Int) < n := by omega
  have h2 := szN_rem size
  obtain ⟨b1, b2⟩ := szN_bd size
  have HM := Kp.mk hm
  have HS : Kp ((1 : Int) + ((szN size - 1 : Nat) : Int) = (szN size : Nat)) := ⟨by omega⟩
  obtain ⟨s, hs⟩ : ∃ s, s = szN size - 1 := ⟨_, rfl⟩
  rw [← hs] at h2 HS
  have h3 : IntKind.i64.wrap (s : Nat) = (s : Nat) := IntWalk.i64_in _ (by omega)
  have h4 : IntKind.i64.wrap ((1 : Int) + (s : Nat)) = (1 : Int) + (s : Nat) := IntWalk.i64_in _ (by omega)
  clear hm hs
  go_enter Try.func6, Try.ntmps6
  go_wp2_with fail
  rw [HS.out]
  refine (split_many id (szN size) n a cap w (by omega) (by omega) HM.out).mono ?_
  rintro r w1 ⟨rfl, rfl⟩
  go_wp2_with fail
  refine (awake_any w).mono ?_
  rintro r w3 ⟨rfl, hb⟩
  have HB := Kp.mk hb
  clear hb
  go_wp2_with fail
  go_ret
  exact ⟨rfl, HB.out⟩
end Go.Proofs.Ytlgcpfeaecpocaa
