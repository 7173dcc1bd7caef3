/-
  Prune: what stands below the floor goes.
-/
import Derived.Test.YtfpmmbbbndobiaaRfB
namespace Go.Proofs.Ytfpmmbbbndobiaa
open Go.RowKit

def below (T : TB) (d : Nat) (k : K3) (i : Nat) : Bool := (T.off (d * 8 + i)).stands && decide (0 < cmpK k (T.off (d * 8 + i)).kn.k)
def pruneI (T : TB) (d : Nat) (k : K3) : Nat → TB
  | 0 => T
  | i + 1 => if below T d k i = true then (pruneI T d k i).putO (d * 8 + i) ow0 else pruneI T d k i
theorem built101z : Try.prog.built 101 [] = some (owc ow0).toArray := by kernel_rfl
theorem prune_nil (d : Int) (k : K3) (w : World) : Calls Try.prog 22 #[.pointer none, .int .i64 d, keyV k] w fun r w' => r = .returned (.int .i64 2) ∧ Below w.heap.size w w' := by
  have HB : Kp (∀ o, Below w.heap.size w (w.alloc o)) := ⟨fun o => more (Below.refl _ _) _⟩
  go_enter Try.func22, Try.ntmps22
  go_wp2_with fail
  go_ret
  exact ⟨rfl, HB.out _⟩
set_option maxRecDepth 100000 in
set_option maxHeartbeats 6400000 in
theorem prune_any (T : TB) (d : Nat) (k : K3) (t : Nat) (w : World) (h : Blk w t T.obj) (hd : d < 8) (hok : (ndB d && (d : Int) != T.self) = true) (hk : krB k = true) :
    Calls Try.prog 22 #[.pointer (some ⟨t, 0, none⟩), .int .i64 d, keyV k] w fun r w' => r = .returned (.int .i64 0) ∧ Turn t (pruneI T d k 8).obj w w' := by
  have HO := fun w1 h1 => other_any T t d w1 h1
  rw [hok] at HO
  have HR := fun w1 => kright_any k w1
  rw [hk] at HR
  have HD8 := Kp.mk hd
  have hd0 : (d : Int) < 8 := by omega
  obtain ⟨Kb, hKb⟩ : ∃ b, b = w.heap.size := ⟨_, rfl⟩
  have HKb := Kp.mk hKb
  have HTL : Kp (t < w.heap.size) := ⟨h.lt⟩
  have HNE : Kp (t ≠ Kb) := ⟨by rw [hKb]; exact Nat.ne_of_lt h.lt⟩
  obtain ⟨w0, hw0⟩ : ∃ x, x = w.alloc (.cells #[.int .u32 k.e, .int .u32 k.s, .int .i64 k.m] 47) := ⟨_, rfl⟩
  have K0 : Kp (Turn t T.obj w w0 ∧ Blk w0 Kb (.cells #[.int .u32 k.e, .int .u32 k.s, .int .i64 k.m] 47)) := ⟨by rw [hw0]; exact ⟨(Turn.same h).alloc _, Blk.newAt _ hKb⟩⟩
  have HW0 := Kp.mk hw0
  have HRW : Kp (∀ w1, Blk w1 t T.obj → w1.rangeAt t (3 + d * 216) (rowO T d)) := ⟨fun w1 h1 => row_range h1 hd⟩
  clear h hok hk hd hKb hw0
  go_enter Try.func22, Try.ntmps22
  go_wp2_with fail
  rw [← HW0.out, ← HKb.out]
  refine (HO _ K0.out.1.blk).mono ?_
  rintro r w1 ⟨rfl, rfl⟩
  obtain ⟨k0c, k1c, k2c, -⟩ := K0.out.2.three
  go_wp2_with fail
  refine (HR _).mono ?_
  rintro r w1 ⟨rfl, hb⟩
  have K1 : Kp (Turn t T.obj w w1 ∧ Blk w1 Kb (.cells #[.int .u32 k.e, .int .u32 k.s, .int .i64 k.m] 47)) := ⟨K0.out.1.more hb, K0.out.2.keep hb⟩
  clear hb K0 k0c k1c k2c HR HO
  have HRR := Kp.mk (HRW.out _ K1.out.1.blk)
  go_wp2_with (refine wpList_load_mid rfl 102 (.tmp 24) rfl t (3 + d * 216) rfl (rowO T d) _ HRR.out Try.underlying102 rfl (by rw [rowO_len]; kernel_rfl) ?_)
  clear HRR HRW
  go_loopw [7, 26] (fun _ ct wr => ∃ i : Nat, i ≤ 8 ∧ ct = .int .i64 i ∧ Kp (Turn t (pruneI T d k i).obj w wr ∧ Blk wr Kb (.cells #[.int .u32 k.e, .int .u32 k.s, .int .i64 k.m] 47))) (fun _ ct _ => 8 - (intOf ct).toNat)
  case atStart => exact ⟨0, by omega, rfl, K1⟩
  case round =>
    clear K1
    obtain ⟨i, hi8, rfl, K2⟩ := hrel
    by_cases hlt : i < 8
    · have HI8 := Kp.mk hlt
      have hlt' : (i : Int) < 8 := by omega
      have hix := index102 (fun j => T.off (d * 8 + j)) hlt
      have HIS : Kp (pruneI T d k (i + 1) = if below T d k i = true then (pruneI T d k i).putO (d * 8 + i) ow0 else pruneI T d k i) := ⟨rfl⟩
      have HG : Kp (below T d k i = ((T.off (d * 8 + i)).stands && decide (0 < cmpK k (T.off (d * 8 + i)).kn.k))) := ⟨rfl⟩
      obtain ⟨TI, hTI⟩ : ∃ TI, TI = pruneI T d k i := ⟨_, rfl⟩
      rw [← hTI] at HIS K2
      obtain ⟨o, ho⟩ : ∃ o, o = T.off (d * 8 + i) := ⟨_, rfl⟩
      rw [← ho] at HG hix
      clear ho hTI hlt hi8
      obtain ⟨Mb, hMb⟩ : ∃ Mb, Mb = wr.heap.size := ⟨_, rfl⟩
      have HMb := Kp.mk hMb
      clear hMb
      go_upto_region 8 with (first
        | (refine wpList_store_row rfl 101 (.tmp 8) (.tmp 29) rfl wr.heap.size (owc o).toArray rfl rfl 101 _ (Blk.newAt _ rfl) (info101s o) rfl (all_oneCell_toArray (owc_one o)) ?_
           rw [World.setRow_alloc_new]
           have K3 : Kp (Turn t TI.obj w (wr.alloc o.obj) ∧ Blk (wr.alloc o.obj) Kb (.cells #[.int .u32 k.e, .int .u32 k.s, .int .i64 k.m] 47) ∧ Blk (wr.alloc o.obj) Mb o.obj) := ⟨K2.out.1.alloc _, K2.out.2.old _, Blk.newAt _ HMb.out⟩
           rw [← HMb.out]
           revert K3
           generalize wr.alloc o.obj = w3
           intro K3))
      clear K2 hix HMb
      obtain ⟨o0, o1, o3, o4, o5⟩ := owc_at K3.out.2.2
      obtain ⟨k0c, k1c, k2c, -⟩ := K3.out.2.1.three
      cases hst : o.stands with
      | false =>
        rw [hst] at o0
        have HNG : Kp (pruneI T d k (i + 1) = TI) := ⟨by rw [HIS.out, HG.out, hst]; rfl⟩
        clear hst HIS HG
        go_wp2_with fail
        exact ⟨⟨i + 1, by have := HI8.out; omega, by go_num, ⟨by rw [HNG.out]; exact ⟨K3.out.1, K3.out.2.1⟩⟩⟩, by have := HI8.out; simp [intOf]; omega⟩
      | true =>
        rw [hst] at o0
        have HG2 : Kp (below T d k i = decide (0 < cmpK k o.kn.k)) := ⟨by rw [HG.out, hst]; rfl⟩
        clear hst HG
        go_wp2_with fail
        refine (compare_any k o.kn.k _).mono ?_
        rintro r w5 ⟨rfl, hb⟩
        have K5 : Kp (Turn t TI.obj w w5 ∧ Blk w5 Kb (.cells #[.int .u32 k.e, .int .u32 k.s, .int .i64 k.m] 47)) := ⟨K3.out.1.more hb, K3.out.2.1.keep hb⟩
        clear hb K3 o0 o1 o3 o4 o5 k0c k1c k2c
        generalize cmpK k o.kn.k = c at HG2 ⊢
        by_cases hc : 0 < c
        · have HNG : Kp (pruneI T d k (i + 1) = TI.putO (d * 8 + i) ow0) := ⟨by rw [HIS.out, HG2.out, if_pos (by simpa using hc)]⟩
          clear HIS HG2
          have hz := built101z
          have HZ : Kp (∃ Z, Z = owc ow0) := ⟨_, rfl⟩
          go_wp2_with (first
            | (refine wpList_build_eq rfl 101 #[] rfl #[] rfl (owc ow0).toArray built101z ?_)
            | (refine wpList_store_mid rfl 101 (.tmp 47) (.tmp 43) rfl t (3 + d * 216 + i * 27) (owc ow0).toArray rfl rfl (Blk.there K5.out.1.blk (by rw [tc_len]; have := HD8.out; have := HI8.out; show 3 + d * 216 + i * 27 + 27 ≤ 1739; omega)) (info101s _) (all_oneCell_toArray (owc_one _)) ?_
               have K6 : Kp (Turn t (TI.putO (d * 8 + i) ow0).obj w (w5.setCells t (3 + d * 216 + i * 27) (owc ow0).toArray.toList) ∧ Blk (w5.setCells t (3 + d * 216 + i * 27) (owc ow0).toArray.toList) Kb (.cells #[.int .u32 k.e, .int .u32 k.s, .int .i64 k.m] 47)) := ⟨K5.out.1.putO HD8.out HI8.out _, Blk.otherCells HNE.out _ _ _ K5.out.2⟩
               revert K6
               generalize w5.setCells t (3 + d * 216 + i * 27) (owc ow0).toArray.toList = w6
               intro K6))
          exact ⟨⟨i + 1, by have := HI8.out; omega, by go_num, ⟨by rw [HNG.out]; exact K6.out⟩⟩, by have := HI8.out; simp [intOf]; omega⟩
        · have HNG : Kp (pruneI T d k (i + 1) = TI) := ⟨by rw [HIS.out, HG2.out, if_neg (by simpa using hc)]⟩
          clear HIS HG2
          go_wp2_with fail
          exact ⟨⟨i + 1, by have := HI8.out; omega, by go_num, ⟨by rw [HNG.out]; exact K5.out⟩⟩, by have := HI8.out; simp [intOf]; omega⟩
    · have hi : i = 8 := by omega
      have KF : Kp (Turn t (pruneI T d k 8).obj w wr) := ⟨by rw [← hi]; exact K2.out.1⟩
      have hnlt : ¬ (i : Int) < 8 := by omega
      clear hi hlt K2 hi8
      go_wp2_with fail
      go_ret
      exact ⟨rfl, KF.out⟩
end Go.Proofs.Ytfpmmbbbndobiaa
