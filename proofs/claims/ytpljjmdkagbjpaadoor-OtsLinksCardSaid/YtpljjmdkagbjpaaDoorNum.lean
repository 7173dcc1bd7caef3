/-
  The document's Num: a number as four or eight bytes.
-/
import Derived.Test.YtpljjmdkagbjpaaDoorTwin
namespace Go.Proofs.YtpljjmdkagbjpaaDoor
open Go.RowKit

/-- A number as so many bytes. -/
def numL (x : Int) (k : Nat) : List Int := (List.range k).map fun i => x / 256 ^ (k - 1 - i) % 256
theorem numL_len (x : Int) (k : Nat) : (numL x k).length = k := by simp [numL]
theorem numL_eight (x : Int) : numL x 8 = be64 x := rfl
theorem numL_bytes (x : Int) (k : Nat) : Bytes (numL x k) := by
  intro y hy
  obtain ⟨i, _, rfl⟩ := List.mem_map.1 hy
  omega
/-- What stands behind j rounds. -/
def lowN (x : Int) (k j : Nat) : List Int := List.replicate (k - j) 0 ++ (numL x k).drop (k - j)
theorem lowN_len (x : Int) (k j : Nat) (_h : j ≤ k) : (lowN x k j).length = k := by simp [lowN, numL_len]
theorem lowN_full (x : Int) (k : Nat) : lowN x k k = numL x k := by simp [lowN]
theorem lowN_zero (x : Int) (k : Nat) : lowN x k 0 = List.replicate k 0 := by simp [lowN, List.drop_of_length_le (Nat.le_of_eq (numL_len x k))]
theorem lowN_set (x : Int) (k j : Nat) (h : j < k) : (lowN x k j).set (k - 1 - j) (x / 256 ^ j % 256) = lowN x k (j + 1) := by
  unfold lowN
  have e : k - j = (k - (j + 1)) + 1 := by omega
  rw [e, List.replicate_succ', List.append_assoc, List.set_append_right _ _ (by simp; omega)]
  have e2 : k - 1 - j - (List.replicate (k - (j + 1)) (0 : Int)).length = 0 := by simp; omega
  rw [e2]
  congr 1
  rw [List.singleton_append, List.set_cons_zero, List.drop_eq_getElem_cons (i := k - (j + 1)) (by rw [numL_len]; omega)]
  congr 1
  unfold numL
  rw [List.getElem_map, List.getElem_range, show k - 1 - (k - (j + 1)) = j by omega]
theorem make22 (k : Nat) (h : k = 4 ∨ k = 8) (w : World) : (Instr.makeSlice 32 (.int .i64 k) (.int .i64 k)).run Tryd.prog w = .ok (.slice (some ⟨w.heap.size, 0, none⟩) k k) (w.alloc (.cells (kv .u8 (List.replicate k 0)).toArray 5)) := by
  rcases h with rfl | rfl <;> kernel_rfl
set_option maxRecDepth 100000 in
set_option maxHeartbeats 1000000 in
theorem num_any (x : Int) (k : Nat) (w : World) (hk : k = 4 ∨ k = 8) (h0 : 0 ≤ x) (h1 : x < 18446744073709551616) :
    Calls Tryd.prog 73 #[.int .u64 x, .int .i64 k] w fun r w' => ∃ v', r = .returned v' ∧ HoldsB w' w'.heap.size v' (numL x k) ∧ Below w.heap.size w w' := by
  have hm := make22 k hk
  have k1 : 1 ≤ k := by omega
  have k8 : k ≤ 8 := by omega
  clear hk
  go_enter Tryd.func73, Tryd.ntmps73
  go_wp2_with fail
  obtain ⟨A, hA⟩ : ∃ A, A = w.heap.size := ⟨_, rfl⟩
  have HA := Kp.mk hA
  rw [← hA]
  refine wp_world (fun W => Row W A 5 .u8 (lowN x k 0) ∧ Below A w W) ⟨by rw [lowN_zero]; unfold Row; simpa using Blk.newAt (w := w) (.cells (Array.replicate k (.int .u8 0)) 5) hA, by rw [hA]; exact more (Below.refl _ _) _⟩ ?_
  rintro W ⟨h2, h3⟩
  have G1 := Kp.mk h2
  have G2 := Kp.mk h3
  clear h2 h3 hA hm
  go_loopw [0, 6] (fun q c wr => ∃ j : Nat, j ≤ k ∧ c = .int .i64 ((k : Int) - 1 - j) ∧ q = .int .u64 (x / 256 ^ j) ∧ Row wr A 5 .u8 (lowN x k j) ∧ Below A w wr) (fun _ c _ => (intOf c + 1).toNat)
  case atStart => exact ⟨0, by omega, by simp, by simp, G1.out, G2.out⟩
  case round =>
    obtain ⟨j, hj, rfl, rfl, h2, h3⟩ := hrel
    clear G1 G2
    have G1 := Kp.mk h2
    have G2 := Kp.mk h3
    clear h2 h3
    have q0 : 0 ≤ x / 256 ^ j := Int.ediv_nonneg h0 (Int.pow_nonneg (by decide))
    have q1 : x / 256 ^ j < 18446744073709551616 := Int.lt_of_le_of_lt (Int.ediv_le_self _ h0) h1
    have HQ : Kp (x / 256 ^ j / 256 = x / 256 ^ (j + 1)) := ⟨by rw [Int.ediv_ediv_of_nonneg (Int.pow_nonneg (by decide)), Int.pow_succ]⟩
    have HS := fun h => Kp.mk (lowN_set x k j h)
    generalize hQ : x / 256 ^ j = Q at *
    by_cases hlj : j < k
    · have HS2 := HS hlj
      clear HS
      obtain ⟨i, hi⟩ : ∃ i : Nat, (k : Int) - 1 - j = i := ⟨k - 1 - j, by omega⟩
      have HI : Kp (i = k - 1 - j ∧ i < k) := ⟨by omega⟩
      rw [hi]
      have ik : i < k := by omega
      have i8 : i < 8 := by omega
      have cw := G1.out.cell (i := i) (by rw [lowN_len x k j hj]; exact ik)
      have fw := G1.out.frozen i
      have HHi := Kp.mk hi
      clear hi hQ
      go_wp2_with fail
      refine ⟨⟨j + 1, by omega, ?_, ?_, ?_, G2.out.setCell (by exact Nat.le_refl _) _⟩, by simp [intOf]⟩
      · have := HHi.out
        congr 1
        omega
      · rw [HQ.out]
      · refine (G1.out.set i _).as ?_
        rw [HI.out.1]
        exact HS2.out
    · have HJ : Kp (j = k) := ⟨by omega⟩
      obtain ⟨i, hi⟩ : ∃ i : Int, (k : Int) - 1 - j = i := ⟨_, rfl⟩
      rw [hi]
      have i0 : i < 0 := by omega
      have G4 : Kp (Row wr A 5 .u8 (numL x k)) := by
        have h := G1.out
        rw [HJ.out, lowN_full] at h
        exact ⟨h⟩
      have HH : Kp (HoldsB wr wr.heap.size (.slice (some ⟨A, 0, none⟩) k k) (numL x k)) :=
        ⟨HoldsB.ofRow2 (off := 0) G4.out (numL_len x k).symm (Nat.le_refl _) (by unfold maxLen; omega) (fun i hi => by simp [List.getElem?_eq_getElem hi, List.getD_eq_getElem?_getD]) (numL_bytes x k)⟩
      clear HS hi hQ G1 hlj hj
      go_wp2_with fail
      go_ret
      exact ⟨_, rfl, HH.out, by rw [← HA.out]; exact G2.out⟩
end Go.Proofs.YtpljjmdkagbjpaaDoor
