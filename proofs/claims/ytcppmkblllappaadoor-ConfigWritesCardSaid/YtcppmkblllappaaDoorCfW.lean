/-
  The document's Parse of any text; ConfigReads: the walk.
-/
import Derived.Test.YtcppmkblllappaaDoorCfV
import Derived.Test.YtcppmkblllappaaDoorCfJ
namespace Go.Proofs.YtcppmkblllappaaDoor
open Go.RowKit

structure A0R (w : World) (A : Nat) : Prop where
  A0 : A = w.heap.size
set_option maxRecDepth 100000 in
set_option maxHeartbeats 6400000 in
theorem rparse_long (s : ByteArray) (w : World) (hs : 4096 < s.size) : Calls Tryd.prog 8 #[.string s] w (PPost s w) := by
  have hs' : (4096 : Int) < (s.size : Int) := by omega
  have HP : Kp (∀ w', Below w.heap.size w w' → PPost s w (.returned (.tuple #[.agg (rc r0).toArray, .agg #[.int .i64 0, .string ⟨#[]⟩, .int .i64 8]])) w') := ⟨fun w' hb => ⟨by unfold parseV; rw [if_pos hs], hb⟩⟩
  have HZ : Kp (Tryd.prog.built 40 (#[] : Array (Nat × Value)).toList = some (rc r0).toArray ∧ (Tryd.prog.info? 40).map (fun i => (i.zero, i.size)) = some (some (.agg (rc r0).toArray), 15) ∧ (Tryd.prog.info? 42).map (fun i => (i.zero, i.size)) = some (some (.agg #[.int .i64 0, .string ⟨#[]⟩, .int .i64 0]), 3)) := ⟨built40z, info40z, info42z⟩
  have HI : Kp (∀ f : Nat → Int, (Tryd.prog.info? 40).map (·.size) = some (rc f).toArray.size ∧ (rc r0).toArray.size = (rc f).toArray.size ∧ (rc f).toArray.all (·.oneCell') = true) := ⟨fun f => ⟨info40s f, by simp [rc_len], all_oneCell_toArray (rc_one f)⟩⟩
  obtain ⟨A, hA⟩ : ∃ A, A = w.heap.size := ⟨_, rfl⟩
  have HPN : Kp (A0R w A) := ⟨⟨hA⟩⟩
  have K1 : Kp (R0 w A (HB8 w)) := ⟨by have := hb8_is w; rw [← hA] at this; exact ⟨this.1, this.2.1, by rw [hA] at this; exact this.2.2.1⟩⟩
  have HS : Kp (HB8 w = (w.alloc (.cells (rc r0).toArray 40)).alloc (.cells #[.int .i64 0, .string ⟨#[]⟩, .int .i64 0] 42)) := ⟨rfl⟩
  clear hs hA
  go_enter Tryd.func8, Tryd.ntmps8
  go_upto_region 1 with (first
    | (refine wpList_alloc_row rfl 40 rfl (rc r0).toArray 15 HZ.out.2.1 ?_)
    | (refine wpList_alloc_row rfl 42 rfl #[.int .i64 0, .string ⟨#[]⟩, .int .i64 0] 3 HZ.out.2.2 ?_))
  rw [← HS.out]
  try rw [show (w.alloc (.cells (rc r0).toArray 40)).heap.size = w.heap.size + 1 by simp]
  rw [← HPN.out.A0]
  revert K1
  generalize HB8 w = w1 at *
  intro K1
  clear HS
  go_wp2_with (first
    | (refine wpList_build_eq rfl 40 #[] rfl #[] (by simp) (rc r0).toArray HZ.out.1 ?_)
    | (refine wpList_store_row rfl 40 (.tmp 2) (.tmp 21) rfl A (rc r0).toArray rfl rfl 40 _ K1.out.a (HI.out _).1 (HI.out _).2.1 (HI.out _).2.2 ?_
       have KE : Kp (Blk (w1.setRow A (rc r0).toArray) A (.cells (rc r0).toArray 40) ∧ Blk (w1.setRow A (rc r0).toArray) (A + 1) (.cells #[.int .i64 0, .string ⟨#[]⟩, .int .i64 0] 42) ∧ Below w.heap.size w (w1.setRow A (rc r0).toArray)) := ⟨Blk.setRow K1.out.a _, (setRow_other w1 A (A + 1) _ (Nat.succ_ne_self A)).trans K1.out.m, below_setRow K1.out.hb (by rw [HPN.out.A0]; exact Nat.le_refl _) _⟩
       revert KE
       generalize w1.setRow A (rc r0).toArray = w8
       intro KE)
    | (refine wpList_store_row rfl 42 (.tmp 3) (.tmp 22) rfl (A + 1) #[.int .i64 0, .string ⟨#[]⟩, .int .i64 8] rfl rfl 42 _ KE.out.2.1 info42 rfl (three_one _ _ _) ?_
       have KF : Kp (Blk (w8.setRow (A + 1) #[.int .i64 0, .string ⟨#[]⟩, .int .i64 8]) A (.cells (rc r0).toArray 40) ∧ Blk (w8.setRow (A + 1) #[.int .i64 0, .string ⟨#[]⟩, .int .i64 8]) (A + 1) (.cells #[.int .i64 0, .string ⟨#[]⟩, .int .i64 8] 42) ∧ Below w.heap.size w (w8.setRow (A + 1) #[.int .i64 0, .string ⟨#[]⟩, .int .i64 8])) := ⟨(setRow_other w8 (A + 1) A _ (Nat.succ_ne_self A).symm).trans KE.out.1, Blk.setRow KE.out.2.1 _, below_setRow KE.out.2.2 (by rw [HPN.out.A0]; exact Nat.le_succ _) _⟩
       revert KF
       generalize w8.setRow (A + 1) #[.int .i64 0, .string ⟨#[]⟩, .int .i64 8] = w9
       intro KF))
  exact bodyPost_ret (v := .tuple #[.agg (rc r0).toArray, .agg #[.int .i64 0, .string ⟨#[]⟩, .int .i64 8]]) (ret8 rfl rfl KF.out.1 KF.out.2.1) rfl (HP.out w9 KF.out.2.2)
theorem rparse_any (s : ByteArray) (w : World) : Calls Tryd.prog 8 #[.string s] w (PPost s w) := by
  by_cases hs : s.size ≤ 4096
  · exact rparse_short s w hs
  · exact rparse_long s w (by omega)
theorem v0_is (w : World) : Blk ((w.alloc (.cells (rc r0).toArray 40)).alloc (.cells #[.int .i64 0, .string ⟨#[]⟩, .int .i64 0] 42)) w.heap.size (.cells (rc r0).toArray 40) := (Blk.new _ _).old _
theorem v1_is (w : World) (f : Nat → Int) : Blk (((w.alloc (.cells (rc r0).toArray 40)).alloc (.cells #[.int .i64 0, .string ⟨#[]⟩, .int .i64 0] 42)).setRow w.heap.size (rc f).toArray) w.heap.size (.cells (rc f).toArray 40) ∧ Blk (((w.alloc (.cells (rc r0).toArray 40)).alloc (.cells #[.int .i64 0, .string ⟨#[]⟩, .int .i64 0] 42)).setRow w.heap.size (rc f).toArray) (w.heap.size + 1) (.cells #[.int .i64 0, .string ⟨#[]⟩, .int .i64 0] 42) ∧ Below w.heap.size w (((w.alloc (.cells (rc r0).toArray 40)).alloc (.cells #[.int .i64 0, .string ⟨#[]⟩, .int .i64 0] 42)).setRow w.heap.size (rc f).toArray) := by
  have h2 : Blk ((w.alloc (.cells (rc r0).toArray 40)).alloc (.cells #[.int .i64 0, .string ⟨#[]⟩, .int .i64 0] 42)) (w.heap.size + 1) (.cells #[.int .i64 0, .string ⟨#[]⟩, .int .i64 0] 42) := Blk.newAt _ (by simp)
  exact ⟨Blk.setRow (v0_is w) _, (setRow_other _ _ _ _ (Nat.succ_ne_self _)).trans h2, below_setRow (more (more (Below.refl _ _) _) _) (Nat.le_refl _) _⟩
theorem v2_is {w W : World} {f : Nat → Int} {m z : Array Value} {h : Nat} (e : Blk W h (.cells (rc f).toArray 40) ∧ Blk W (h + 1) (.cells z 42) ∧ Below h w W) : Blk (W.setRow (h + 1) m) h (.cells (rc f).toArray 40) ∧ Blk (W.setRow (h + 1) m) (h + 1) (.cells m 42) ∧ Below h w (W.setRow (h + 1) m) :=
  ⟨(setRow_other _ _ _ _ (Nat.succ_ne_self _).symm).trans e.1, Blk.setRow e.2.1 _, below_setRow e.2.2 (Nat.le_succ _) _⟩
theorem Blk.three3 {w : World} {b : Nat} {v0 v1 v2 : Value} {t : TypeId} (h : Blk w b (.cells #[v0, v1, v2] t)) :
    w.cell? ⟨b, 0, none⟩ = some v0 ∧ w.cell? ⟨b, 1, none⟩ = some v1 ∧ w.cell? ⟨b, 2, none⟩ = some v2 := ⟨h.cell 0, h.cell 1, h.cell 2⟩
set_option maxRecDepth 100000 in
set_option maxHeartbeats 6400000 in
theorem reads_any (t : ByteArray) (w : World) (ht : t.size ≤ maxLen) (hk : Kon w) : Calls Tryd.prog 3 #[.string t] w (TPost w) := by
  have HK := Kp.mk hk
  have HZ := wZ
  have HI : Kp (∀ f : Nat → Int, (Tryd.prog.info? 33).map (·.size) = some (rc f).toArray.size ∧ (rc r0).toArray.size = (rc f).toArray.size ∧ (rc f).toArray.all (·.oneCell') = true ∧ (Tryd.prog.info? 40).map (·.size) = some (rc f).toArray.size) := ⟨fun f => ⟨info33s f, by simp [rc_len], all_oneCell_toArray (rc_one f), info40s f⟩⟩
  have HZ36 := Kp.mk info36z
  have HZ40 : Kp ((Tryd.prog.info? 40).map (fun i => (i.zero, i.size)) = some (some (.agg (rc r0).toArray), 15) ∧ (Tryd.prog.info? 42).map (fun i => (i.zero, i.size)) = some (some (.agg #[.int .i64 0, .string ⟨#[]⟩, .int .i64 0]), 3)) := ⟨info40z, info42z⟩
  have H1 := parse_any t w ht hk
  have H2 := fun wx => rparse_any t wx
  unfold PPost at H1 H2
  have h64 := parse_ok64 t
  generalize parseV t = V at H1 H2 h64
  obtain ⟨P, m1, m2, m3⟩ := V
  have HE : Kp (∀ w, (binOp .eql 40 (.agg (rc P).toArray) (.agg (rc P).toArray)).run Tryd.prog w = .ok (.bool true) w) := ⟨fun w => by rw [eq40 h64 h64, (sameR_iff P P).2 rfl]⟩
  simp only at H1 H2
  clear hk ht h64
  go_enter Tryd.func3, Tryd.ntmps3
  go_wp2_with fail
  refine H1.mono ?_
  rintro r v1 ⟨rfl, hb⟩
  have B1 : Kp (Below w.heap.size w v1) := ⟨hb⟩
  clear hb H1
  go_upto_region 2 with (first
    | (refine wpList_alloc_row rfl 33 rfl (rc r0).toArray 15 HZ.out.2.2 ?_)
    | (refine wpList_alloc_row rfl 36 rfl #[.int .i64 0, .string ⟨#[]⟩, .int .i64 0] 3 HZ36.out ?_)
    | (refine wpList_store_row rfl 33 (.tmp 3) (.tmp 10) rfl v1.heap.size (rc P).toArray rfl rfl 33 _ (w0_is v1) (HI.out _).1 (HI.out _).2.1 (HI.out _).2.2.1 ?_
       have E1 := Kp.mk (w1_is v1 P)
       revert E1
       generalize World.setRow _ v1.heap.size (rc P).toArray = y1
       intro E1)
    | (refine wpList_store_row rfl 36 (.tmp 4) (.tmp 11) rfl (v1.heap.size + 1) #[.int .i64 m1, .string m2, .int .i64 m3] (by first | rfl | (go_simp; done) | (simp; done)) rfl 36 _ E1.out.2.1 info36 rfl (three_one _ _ _) ?_
       have G1 := Kp.mk (w2_is (m := #[.int .i64 m1, .string m2, .int .i64 m3]) E1.out)
       revert G1
       generalize World.setRow y1 (v1.heap.size + 1) #[.int .i64 m1, .string m2, .int .i64 m3] = u1
       intro G1))
  rw [show (v1.alloc (.cells (rc r0).toArray 33)).heap.size = v1.heap.size + 1 by simp]
  obtain ⟨A1, hA1⟩ : ∃ A, A = v1.heap.size := ⟨_, rfl⟩
  rw [← hA1] at G1
  rw [← hA1]
  have Q1 := G1.out
  have K1 : Kp (Below w.heap.size w u1 ∧ Blk u1 A1 (rObj P) ∧ Blk u1 (A1 + 1) (.cells #[.int .i64 m1, .string m2, .int .i64 m3] 36)) := ⟨B1.out.trans (Q1.2.2.mono (by rw [hA1]; exact B1.out.size)), Q1.1, Q1.2.1⟩
  clear Q1 hA1 B1 G1 E1
  go_wp2_with fail
  refine (H2 _).mono ?_
  rintro r v2 ⟨rfl, hb⟩
  have B2 : Kp (Below w.heap.size w v2 ∧ Blk v2 A1 (rObj P) ∧ Blk v2 (A1 + 1) (.cells #[.int .i64 m1, .string m2, .int .i64 m3] 36)) := ⟨K1.out.1.trans (hb.mono K1.out.1.size), K1.out.2.1.keep hb, K1.out.2.2.keep hb⟩
  clear hb K1 H2
  go_upto_region 3 with (first
    | (refine wpList_alloc_row rfl 40 rfl (rc r0).toArray 15 HZ40.out.1 ?_)
    | (refine wpList_alloc_row rfl 42 rfl #[.int .i64 0, .string ⟨#[]⟩, .int .i64 0] 3 HZ40.out.2 ?_)
    | (refine wpList_store_row rfl 40 (.tmp 5) (.tmp 15) rfl v2.heap.size (rc P).toArray rfl rfl 40 _ (v0_is v2) (HI.out _).2.2.2 (HI.out _).2.1 (HI.out _).2.2.1 ?_
       have E2 := Kp.mk (v1_is v2 P)
       revert E2
       generalize World.setRow _ v2.heap.size (rc P).toArray = y2
       intro E2)
    | (refine wpList_store_row rfl 42 (.tmp 6) (.tmp 16) rfl (v2.heap.size + 1) #[.int .i64 m1, .string m2, .int .i64 m3] (by first | rfl | (go_simp; done) | (simp; done)) rfl 42 _ E2.out.2.1 info42 rfl (three_one _ _ _) ?_
       have G2 := Kp.mk (v2_is (m := #[.int .i64 m1, .string m2, .int .i64 m3]) E2.out)
       revert G2
       generalize World.setRow y2 (v2.heap.size + 1) #[.int .i64 m1, .string m2, .int .i64 m3] = u2
       intro G2))
  rw [show (v2.alloc (.cells (rc r0).toArray 40)).heap.size = v2.heap.size + 1 by simp]
  obtain ⟨A2, hA2⟩ : ∃ A, A = v2.heap.size := ⟨_, rfl⟩
  rw [← hA2] at G2
  rw [← hA2]
  have Q2 := G2.out
  have K2 : Kp (Below w.heap.size w u2 ∧ Blk u2 A1 (rObj P) ∧ Blk u2 (A1 + 1) (.cells #[.int .i64 m1, .string m2, .int .i64 m3] 36) ∧ Blk u2 A2 (.cells (rc P).toArray 40) ∧ Blk u2 (A2 + 1) (.cells #[.int .i64 m1, .string m2, .int .i64 m3] 42)) := ⟨B2.out.1.trans (Q2.2.2.mono (by rw [hA2]; exact B2.out.1.size)), B2.out.2.1.keep (by rw [hA2] at Q2; exact Q2.2.2), B2.out.2.2.keep (by rw [hA2] at Q2; exact Q2.2.2), Q2.1, Q2.2.1⟩
  clear Q2 hA2 B2 G2 E2
  have he40 := HE.out
  have hg40 := eqg40 P P
  refine wp_region_flow (fun w' => Below w.heap.size w w' ∧ Blk w' A1 (rObj P) ∧ Blk w' (A1 + 1) (.cells #[.int .i64 m1, .string m2, .int .i64 m3] 36) ∧ Blk w' A2 (.cells (rc P).toArray 40) ∧ Blk w' (A2 + 1) (.cells #[.int .i64 m1, .string m2, .int .i64 m3] 42)) (by kernel_rfl) (by kernel_rfl) (by kernel_rfl)
    (fun _ _ h hb => ⟨h.1.trans (hb.mono h.1.size), h.2.1.keep hb, h.2.2.1.keep hb, h.2.2.2.1.keep hb, h.2.2.2.2.keep hb⟩) (⟨K2.out.1.drew, K2.out.2.1.draw, K2.out.2.2.1.draw, K2.out.2.2.2.1.draw, K2.out.2.2.2.2.draw⟩) ?_
  clear K2
  repeat (first
    | (apply Flow.call
       · rfl
       · intro wx hS; go_simp; constructor <;> with_reducible rfl
       · intro wx hS; exact awake_any wx (HK.out.keep hS.1)
       try simp only [Act.put, List.setIfInBounds_toArray, List.set_cons_zero, List.set_cons_succ])
    | (apply Flow.call
       · rfl
       · intro wx hS; go_simp; constructor <;> with_reducible rfl
       · intro wx hS; exact from_any P wx
       try simp only [Act.put, List.setIfInBounds_toArray, List.set_cons_zero, List.set_cons_succ])
    | (apply Flow.value
       · rfl
       · (intro wx hS; exact exec_load_blk 33 (.tmp 3) rfl A1 rfl 33 (rc P).toArray (0, 0) _ hS.2.1 Tryd.underlying33 rfl (HI.out P).1)
       try simp only [Act.put, List.setIfInBounds_toArray, List.set_cons_zero, List.set_cons_succ])
    | (apply Flow.value
       · rfl
       · (intro wx hS; exact exec_load_blk 40 (.tmp 5) rfl A2 rfl 40 (rc P).toArray (0, 0) _ hS.2.2.2.1 Tryd.underlying40 rfl (HI.out P).2.2.2)
       try simp only [Act.put, List.setIfInBounds_toArray, List.set_cons_zero, List.set_cons_succ])
    | (apply Flow.value
       · rfl
       · (intro wx hS
          obtain ⟨x0, x1, x2⟩ := hS.2.2.1.three3
          obtain ⟨y0, y1, y2⟩ := hS.2.2.2.2.three3
          clear hS
          go_simp; with_reducible rfl)
       try simp only [Act.put, List.setIfInBounds_toArray, List.set_cons_zero, List.set_cons_succ])
    )
  refine Flow.done ?_
  intro w9 hS
  have K9 := Kp.mk hS.1
  clear hS
  go_wp2_with fail
  go_ret
  exact ⟨rfl, K9.out⟩
end Go.Proofs.YtcppmkblllappaaDoor
