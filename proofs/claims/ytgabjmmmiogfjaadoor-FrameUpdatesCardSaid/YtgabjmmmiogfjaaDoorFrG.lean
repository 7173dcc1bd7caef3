/-
  What a frame's tag takes; Seal, both ways; the law's awake.
-/
import Derived.Test.YtgabjmmmiogfjaaDoorFrF
namespace Go.Proofs.YtgabjmmmiogfjaaDoor
open Go.RowKit

theorem rblocks_any (n : Int) (w : World) (h2 : n ≤ 9223372036854775807) :
    Calls Tryd.prog 39 #[.int .i64 n] w fun r w' => r = .returned (.int .i64 (blkI n)) ∧ w = w' := by
  by_cases h0 : n < 0
  · have HE : Hid (blkI n = 1) := by show _ = _; unfold blkI; rw [if_pos h0]
    go_enter Tryd.func39, Tryd.ntmps39
    go_wp2_with fail
    go_ret
    exact ⟨reti HE.out.symm, rfl⟩
  · by_cases h5 : n % 64 ≤ 55
    · have HE : Hid (blkI n = n / 64 + 1) := by show _ = _; unfold blkI; rw [if_neg h0, if_pos h5]
      have t1 : decide (55 < n % 64) = false := by simp; omega
      have h00 : 0 ≤ n := by omega
      clear h0
      go_enter Tryd.func39, Tryd.ntmps39
      go_wp2_with fail
      go_ret
      exact ⟨reti HE.out.symm, rfl⟩
    · have HE : Hid (blkI n = n / 64 + 2) := by show _ = _; unfold blkI; rw [if_neg h0, if_neg h5]
      have t1 : decide (55 < n % 64) = true := by simp; omega
      have t2 : 55 < n % 64 := by omega
      have h00 : 0 ≤ n := by omega
      clear h0 h5
      go_enter Tryd.func39, Tryd.ntmps39
      go_wp2_with fail
      go_ret
      exact ⟨reti HE.out.symm, rfl⟩
theorem blkI_le (n : Int) (h0 : 0 ≤ n) (h : n ≤ 2199023255552) : 1 ≤ blkI n ∧ blkI n ≤ 40000000000 := by
  unfold blkI
  rw [if_neg (by omega)]
  split <;> omega
/-- mac.Cost of a key of 32 bytes. -/
theorem mcost_any (n : Int) (w : World) (h0 : 0 ≤ n) (h1 : n ≤ 2199023255552) :
    Calls Tryd.prog 40 #[.int .i64 32, .int .i64 n] w fun r w' => r = .returned (.int .i64 (blkI n + 3)) ∧ w = w' := by
  obtain ⟨b1, b2⟩ := blkI_le n h0 h1
  have HN : Kp (∀ w, Calls Tryd.prog 79 #[.int .i64 n] w fun r w' => r = .returned (.int .i64 (blkI n)) ∧ w' = w) := ⟨fun w => blocks_any n w (by omega)⟩
  generalize blkI n = x at *
  go_enter Tryd.func40, Tryd.ntmps40
  go_wp2_with fail
  refine (HN.out _).mono ?_
  rintro r w1 ⟨rfl, rfl⟩
  go_wp2_with fail
  go_ret
  exact ⟨reti (by omega), rfl⟩
theorem rcost_any (n : Int) (w : World) (h0 : 0 < n) (h1 : n ≤ 2199023255552) :
    Calls Tryd.prog 11 #[.int .i64 32, .int .i64 n] w fun r w' => r = .returned (.int .i64 (blkI n + 3)) ∧ w = w' := by
  obtain ⟨b1, b2⟩ := blkI_le n (by omega) h1
  have HN : Kp (∀ w, Calls Tryd.prog 39 #[.int .i64 n] w fun r w' => r = .returned (.int .i64 (blkI n)) ∧ w = w') := ⟨fun w => rblocks_any n w (by omega)⟩
  have H0 : Kp (∀ w, Calls Tryd.prog 39 #[.int .i64 0] w fun r w' => r = .returned (.int .i64 1) ∧ w = w') := ⟨fun w => rblocks_any 0 w (by omega)⟩
  generalize blkI n = x at *
  go_enter Tryd.func11, Tryd.ntmps11
  go_wp2_with fail
  refine (H0.out _).mono ?_
  rintro r w1 ⟨rfl, rfl⟩
  go_wp2_with fail
  refine (HN.out _).mono ?_
  rintro r w1 ⟨rfl, rfl⟩
  go_wp2_with fail
  go_ret
  exact ⟨reti (by omega), rfl⟩
/-- How many blocks the tag of a frame with such a body takes. -/
def costV (n : Int) : Int := blkI (22 + (if n ≤ 0 then 0 else n)) + 3
theorem costV_split {n : Int} (h : 0 < n) : n / 64 + (blkI (22 + n % 64) + 3) = costV n := by
  unfold costV blkI
  rw [if_neg (show ¬ n ≤ 0 by omega), if_neg (show ¬ 22 + n % 64 < 0 by omega), if_neg (show ¬ 22 + n < 0 by omega)]
  split <;> split <;> omega
theorem fcost_any (n : Int) (w : World) (h1 : n < 1099511627776) :
    Calls Tryd.prog 13 #[.int .i64 n] w fun r w' => r = .returned (.int .i64 (costV n)) ∧ w = w' := by
  by_cases h0 : n ≤ 0
  · have HE : Kp (costV n = 4) := ⟨by unfold costV; rw [if_pos h0]; decide⟩
    have hm : max n 0 = 0 := by omega
    go_enter Tryd.func13, Tryd.ntmps13
    go_wp2_with fail
    refine (mcost_any 22 _ (by decide) (by decide)).mono ?_
    rintro r w1 ⟨rfl, rfl⟩
    rw [show blkI 22 + 3 = 4 by decide]
    go_wp2_with fail
    go_ret
    exact ⟨reti HE.out.symm, rfl⟩
  · have h0' : 0 < n := by omega
    have HE := Kp.mk (costV_split h0')
    have hm : max n 0 = n := by omega
    obtain ⟨b1, b2⟩ := blkI_le (22 + n % 64) (by omega) (by omega)
    have HM : Kp (∀ w, Calls Tryd.prog 40 #[.int .i64 32, .int .i64 (22 + n % 64)] w fun r w' => r = .returned (.int .i64 (blkI (22 + n % 64) + 3)) ∧ w = w') := ⟨fun w => mcost_any (22 + n % 64) w (by omega) (by omega)⟩
    have h00 : 0 ≤ n := by omega
    clear h0
    generalize blkI (22 + n % 64) = x at *
    go_enter Tryd.func13, Tryd.ntmps13
    go_wp2_with fail
    refine (HM.out _).mono ?_
    rintro r w1 ⟨rfl, rfl⟩
    go_wp2_with fail
    go_ret
    exact ⟨reti HE.out, rfl⟩
def sealE (p : FV) : Int := if frB p = true then 0 else 1
def sealX (key : List Int) (p : FV) (tp : List Int) : List Int := if frB p = true then sealM key p tp else []
def SealAll (key : List Int) (p : FV) (tp : List Int) (w : World) (r : Ending) (w' : World) : Prop :=
  ∃ a n c, r = .returned (.tuple #[.slice a n c, .int .i64 (sealE p)]) ∧ HoldsB w' w'.heap.size (.slice a n c) (sealX key p tp) ∧ Below w.heap.size w w'
theorem seal_all (key : List Int) (p : FV) (tp : List Int) (w : World) (hk : KonIs w) (hkey : key.length = 32 ∧ Bytes key) (h : HoldsB w w.heap.size (.slice p.a p.n p.c) tp) (hid : BigP p) : Calls Tryd.prog 8 #[dgV key, p.v] w (SealAll key p tp w) := by
  unfold SealAll sealE sealX
  cases hr : frB p with
  | true =>
    refine (seal_good key p tp w hk hkey h hr hid).mono ?_
    rintro r w' ⟨v, rfl, h1, h2, h3⟩
    have h4 := HoldsB.ofRow h2 h1
    obtain ⟨a, n, c, rfl, -⟩ := h4.slice
    exact ⟨a, n, c, rfl, h4, h3⟩
  | false =>
    refine (seal_bad key p w hkey.1 hr).mono ?_
    rintro r w' ⟨rfl, h2⟩
    exact ⟨none, 0, 0, rfl, HoldsB.nil _ _, h2⟩
theorem rseal_all (key : List Int) (p : FV) (tp : List Int) (w : World) (hkey : key.length = 32 ∧ Bytes key) (h : HoldsB w w.heap.size (.slice p.a p.n p.c) tp) (hid : BigP p) : Calls Tryd.prog 10 #[dgV key, p.v] w (SealAll key p tp w) := by
  unfold SealAll sealE sealX
  cases hr : frB p with
  | true =>
    refine (rseal_good key p tp w hkey h hr hid).mono ?_
    rintro r w' ⟨v, rfl, h1, h3⟩
    obtain ⟨a, n, c, rfl, -⟩ := h1.slice
    exact ⟨a, n, c, rfl, h1, h3⟩
  | false =>
    refine (rseal_bad key p w hkey.1 hr).mono ?_
    rintro r w' ⟨rfl, h2⟩
    exact ⟨none, 0, 0, rfl, HoldsB.nil _ _, h2⟩
abbrev z32 : List Int := [0, 0, 0, 0, 0, 0, 0, 0, 0, 0, 0, 0, 0, 0, 0, 0, 0, 0, 0, 0, 0, 0, 0, 0, 0, 0, 0, 0, 0, 0, 0, 0]
theorem z32_ok : z32.length = 32 ∧ Bytes z32 := ⟨rfl, fun x hx => by simp [z32] at hx; omega⟩
set_option maxRecDepth 100000 in
theorem awake_any (w : World) (hk : KonIs w) : Calls Tryd.prog 12 #[] w fun r w' => r = .returned (.bool true) ∧ Below w.heap.size w w' := by
  have HA := Kp.mk (seal_all z32 ⟨0, 1, 1, 1, 1, none, 0, 0⟩ [] w hk z32_ok (HoldsB.nil _ _) ⟨by decide, by decide⟩)
  go_enter Tryd.func12, Tryd.ntmps12
  go_wp2_with fail
  refine Calls.mono HA.out ?_
  rintro r w1 ⟨a, n, c, rfl, h1, h2⟩
  have hn : n = 38 := by
    obtain ⟨a1, n1, c1, e1, e2⟩ := h1.slice
    simp only [Value.slice.injEq] at e1
    have : (sealX z32 ⟨0, 1, 1, 1, 1, none, 0, 0⟩ []).length = 38 := by
      unfold sealX
      rw [if_pos (by decide)]
      unfold sealM
      rw [List.length_append, laidM_len, tagM_len]
      rfl
    omega
  subst hn
  rw [show sealE ⟨0, 1, 1, 1, 1, none, 0, 0⟩ = 0 by decide]
  have H2 := Kp.mk h2
  clear h1 h2 HA
  go_wp2_with fail
  go_ret
  exact ⟨rfl, H2.out⟩
end Go.Proofs.YtgabjmmmiogfjaaDoor
