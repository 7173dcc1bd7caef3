/-
  The examples of the document; what rules that may be are like.
-/
import Derived.Test.YtcppmkblllappaaDoorCfI
import Derived.Test.YtcppmkblllappaaDoorCfH
namespace Go.Proofs.YtcppmkblllappaaDoor
open Go.RowKit

theorem ckF_all (r : Nat → Int) : ∀ n i, i + n = 15 → ckF r n i = 15 → ∀ j, i ≤ j → j < 15 → mayB j (r j) = true := by
  intro n
  induction n with
  | zero => intro i h _ j h1 h2; omega
  | succ n ih =>
    intro i h hc j h1 h2
    unfold ckF at hc
    by_cases hm : mayB i (r i) = false
    · rw [if_pos hm] at hc; omega
    · rw [if_neg hm] at hc
      by_cases hj : j = i
      · subst hj; simpa using hm
      · exact ih (i + 1) (by omega) hc j (by omega) h2
theorem ck_may {r : Nat → Int} (h : ck r = 15) : ∀ i, i < 15 → ls i ≤ r i ∧ r i ≤ gt i ∧ (i = 0 → pw (r i) = true) := by
  intro i hi
  have := ckF_all r 15 0 rfl h i (Nat.zero_le _) hi
  unfold mayB at this
  simp only [Bool.and_eq_true, decide_eq_true_eq, Bool.or_eq_true] at this
  exact ⟨this.1.1, this.1.2, fun e => this.2.resolve_left (fun h => h e)⟩
theorem pw_some {v : Int} (h1 : 1 ≤ v) (h2 : v ≤ 8) (h : pw v = true) : v = 1 ∨ v = 2 ∨ v = 4 ∨ v = 8 := by
  have e : v = 1 ∨ v = 2 ∨ v = 3 ∨ v = 4 ∨ v = 5 ∨ v = 6 ∨ v = 7 ∨ v = 8 := by omega
  rcases e with rfl | rfl | rfl | rfl | rfl | rfl | rfl | rfl
  · simp
  · simp
  · exact absurd h (by decide +kernel)
  · simp
  · exact absurd h (by decide +kernel)
  · exact absurd h (by decide +kernel)
  · exact absurd h (by decide +kernel)
  · simp
def x1 : ByteArray := ⟨#[119, 105, 100, 116, 104, 32, 50, 10, 115, 116, 101, 112, 115, 32, 51]⟩
def x2 : ByteArray := ⟨#[119, 105, 100, 116, 104, 32, 51]⟩
def x3 : ByteArray := ⟨#[119, 105, 100, 116, 104, 32, 48, 51]⟩
theorem px1 : (parseV x1).2 = (0, ⟨#[]⟩, 0) ∧ (parseV x1).1 0 = 2 ∧ (parseV x1).1 1 = 3 ∧ (parseV x1).1 13 = 700 := by decide +kernel
theorem px2 : (parseV x2).2 = (1, ⟨#[119, 105, 100, 116, 104]⟩, 30) := by decide +kernel
theorem px3 : (parseV x3).2.2.2 = 10 := by decide +kernel
theorem parse1 (w : World) (hk : Kon w) : Calls Tryd.prog 7 #[.string ⟨#[119, 105, 100, 116, 104, 32, 50, 10, 115, 116, 101, 112, 115, 32, 51]⟩] w fun r w' => ∃ f : Nat → Int, r = .returned (.tuple #[.agg (rc f).toArray, .agg #[.int .i64 0, .string ⟨#[]⟩, .int .i64 0]]) ∧ f 0 = 2 ∧ f 1 = 3 ∧ f 13 = 700 ∧ Below w.heap.size w w' :=
  (parse_any x1 w (by decide +kernel) hk).mono fun r w' h => ⟨(parseV x1).1, by rw [h.1, px1.1], px1.2.1, px1.2.2.1, px1.2.2.2, h.2⟩
theorem parse2 (w : World) (hk : Kon w) : Calls Tryd.prog 7 #[.string ⟨#[119, 105, 100, 116, 104, 32, 51]⟩] w fun r w' => ∃ f : Nat → Int, r = .returned (.tuple #[.agg (rc f).toArray, .agg #[.int .i64 1, .string ⟨#[119, 105, 100, 116, 104]⟩, .int .i64 30]]) ∧ Below w.heap.size w w' :=
  (parse_any x2 w (by decide +kernel) hk).mono fun r w' h => ⟨(parseV x2).1, by rw [h.1, px2], h.2⟩
theorem parse3 (w : World) (hk : Kon w) : Calls Tryd.prog 7 #[.string ⟨#[119, 105, 100, 116, 104, 32, 48, 51]⟩] w fun r w' => ∃ (f : Nat → Int) (a : Int) (b : ByteArray), r = .returned (.tuple #[.agg (rc f).toArray, .agg #[.int .i64 a, .string b, .int .i64 10]]) ∧ Below w.heap.size w w' :=
  (parse_any x3 w (by decide +kernel) hk).mono fun r w' h => ⟨(parseV x3).1, (parseV x3).2.1, (parseV x3).2.2.1, by rw [h.1, px3], h.2⟩
theorem info36z : (Tryd.prog.info? 36).map (fun i => (i.zero, i.size)) = some (some (.agg #[.int .i64 0, .string ⟨#[]⟩, .int .i64 0]), 3) := by kernel_rfl
theorem w0_is (w : World) : Blk ((w.alloc (.cells (rc r0).toArray 33)).alloc (.cells #[.int .i64 0, .string ⟨#[]⟩, .int .i64 0] 36)) w.heap.size (rObj r0) := (Blk.new _ _).old _
theorem w1_is (w : World) (f : Nat → Int) : Blk (((w.alloc (.cells (rc r0).toArray 33)).alloc (.cells #[.int .i64 0, .string ⟨#[]⟩, .int .i64 0] 36)).setRow w.heap.size (rc f).toArray) w.heap.size (rObj f) ∧ Blk (((w.alloc (.cells (rc r0).toArray 33)).alloc (.cells #[.int .i64 0, .string ⟨#[]⟩, .int .i64 0] 36)).setRow w.heap.size (rc f).toArray) (w.heap.size + 1) (.cells #[.int .i64 0, .string ⟨#[]⟩, .int .i64 0] 36) ∧ Below w.heap.size w (((w.alloc (.cells (rc r0).toArray 33)).alloc (.cells #[.int .i64 0, .string ⟨#[]⟩, .int .i64 0] 36)).setRow w.heap.size (rc f).toArray) := by
  have h2 : Blk ((w.alloc (.cells (rc r0).toArray 33)).alloc (.cells #[.int .i64 0, .string ⟨#[]⟩, .int .i64 0] 36)) (w.heap.size + 1) (.cells #[.int .i64 0, .string ⟨#[]⟩, .int .i64 0] 36) := Blk.newAt _ (by simp)
  exact ⟨Blk.setRow (w0_is w) _, (setRow_other _ _ _ _ (Nat.succ_ne_self _)).trans h2, below_setRow (more (more (Below.refl _ _) _) _) (Nat.le_refl _) _⟩
theorem w2_is {w W : World} {f : Nat → Int} {m z : Array Value} {h : Nat} (e : Blk W h (rObj f) ∧ Blk W (h + 1) (.cells z 36) ∧ Below h w W) : Blk (W.setRow (h + 1) m) h (rObj f) ∧ Blk (W.setRow (h + 1) m) (h + 1) (.cells m 36) ∧ Below h w (W.setRow (h + 1) m) :=
  ⟨(setRow_other _ _ _ _ (Nat.succ_ne_self _).symm).trans e.1, Blk.setRow e.2.1 _, below_setRow e.2.2 (Nat.le_succ _) _⟩
set_option maxRecDepth 100000 in
set_option maxHeartbeats 6400000 in
theorem awake_any (w : World) (hk : Kon w) : Calls Tryd.prog 9 #[] w (TPost w) := by
  have HK := Kp.mk hk
  have HZ := wZ
  have HI : Kp (∀ f : Nat → Int, (Tryd.prog.info? 33).map (·.size) = some (rc f).toArray.size ∧ (rc r0).toArray.size = (rc f).toArray.size ∧ (rc f).toArray.all (·.oneCell') = true) := ⟨fun f => ⟨info33s f, by simp [rc_len], all_oneCell_toArray (rc_one f)⟩⟩
  have HZ36 := Kp.mk info36z
  clear hk
  go_enter Tryd.func9, Tryd.ntmps9
  go_wp2_with fail
  refine (parse1 _ HK.out).mono ?_
  rintro r v1 ⟨f1, rfl, h0, h1, h13, hb⟩
  have B1 : Kp (Below w.heap.size w v1) := ⟨hb⟩
  have F1 : Kp (f1 0 = 2 ∧ f1 1 = 3 ∧ f1 13 = 700) := ⟨h0, h1, h13⟩
  clear hb h0 h1 h13
  go_upto_region 2 with (first
    | (refine wpList_alloc_row rfl 33 rfl (rc r0).toArray 15 HZ.out.2.2 ?_)
    | (refine wpList_alloc_row rfl 36 rfl #[.int .i64 0, .string ⟨#[]⟩, .int .i64 0] 3 HZ36.out ?_)
    | (refine wpList_store_row rfl 33 (.tmp 1) (.tmp 9) rfl v1.heap.size (rc f1).toArray rfl rfl 33 _ (w0_is v1) (HI.out _).1 (HI.out _).2.1 (HI.out _).2.2 ?_
       have E1 := Kp.mk (w1_is v1 f1)
       revert E1
       generalize World.setRow _ v1.heap.size (rc f1).toArray = y1
       intro E1)
    | (refine wpList_store_row rfl 36 (.tmp 2) (.tmp 10) rfl (v1.heap.size + 1) #[.int .i64 0, .string ⟨#[]⟩, .int .i64 0] (by first | rfl | (go_simp; done) | (simp; done)) rfl 36 _ E1.out.2.1 info36 rfl (three_one _ _ _) ?_
       have G1 := Kp.mk (w2_is (m := #[.int .i64 0, .string ⟨#[]⟩, .int .i64 0]) E1.out)
       revert G1
       generalize World.setRow y1 (v1.heap.size + 1) #[.int .i64 0, .string ⟨#[]⟩, .int .i64 0] = u1
       intro G1))
  rw [show (v1.alloc (.cells (rc r0).toArray 33)).heap.size = v1.heap.size + 1 by simp]
  obtain ⟨A1, hA1⟩ : ∃ A, A = v1.heap.size := ⟨_, rfl⟩
  rw [← hA1] at G1
  rw [← hA1]
  have Q1 := G1.out
  have K1 : Kp (Below w.heap.size w u1 ∧ Blk u1 A1 (rObj f1) ∧ Blk u1 (A1 + 1) (.cells #[.int .i64 0, .string ⟨#[]⟩, .int .i64 0] 36)) := ⟨B1.out.trans (Q1.2.2.mono (by rw [hA1]; exact B1.out.size)), Q1.1, Q1.2.1⟩
  clear Q1 hA1 B1 G1 E1
  go_wp2_with fail
  refine (parse2 _ (HK.out.keep K1.out.1)).mono ?_
  rintro r v2 ⟨f2, rfl, hb⟩
  have B2 : Kp (Below w.heap.size w v2 ∧ Blk v2 A1 (rObj f1) ∧ Blk v2 (A1 + 1) (.cells #[.int .i64 0, .string ⟨#[]⟩, .int .i64 0] 36)) := ⟨K1.out.1.trans (hb.mono K1.out.1.size), K1.out.2.1.keep hb, K1.out.2.2.keep hb⟩
  clear hb K1
  go_upto_region 3 with (first
    | (refine wpList_alloc_row rfl 33 rfl (rc r0).toArray 15 HZ.out.2.2 ?_)
    | (refine wpList_alloc_row rfl 36 rfl #[.int .i64 0, .string ⟨#[]⟩, .int .i64 0] 3 HZ36.out ?_)
    | (refine wpList_store_row rfl 33 (.tmp 3) (.tmp 13) rfl v2.heap.size (rc f2).toArray rfl rfl 33 _ (w0_is v2) (HI.out _).1 (HI.out _).2.1 (HI.out _).2.2 ?_
       have E2 := Kp.mk (w1_is v2 f2)
       revert E2
       generalize World.setRow _ v2.heap.size (rc f2).toArray = y2
       intro E2)
    | (refine wpList_store_row rfl 36 (.tmp 4) (.tmp 14) rfl (v2.heap.size + 1) #[.int .i64 1, .string ⟨#[119, 105, 100, 116, 104]⟩, .int .i64 30] (by first | rfl | (go_simp; done) | (simp; done)) rfl 36 _ E2.out.2.1 info36 rfl (three_one _ _ _) ?_
       have G2 := Kp.mk (w2_is (m := #[.int .i64 1, .string ⟨#[119, 105, 100, 116, 104]⟩, .int .i64 30]) E2.out)
       revert G2
       generalize World.setRow y2 (v2.heap.size + 1) #[.int .i64 1, .string ⟨#[119, 105, 100, 116, 104]⟩, .int .i64 30] = u2
       intro G2))
  rw [show (v2.alloc (.cells (rc r0).toArray 33)).heap.size = v2.heap.size + 1 by simp]
  obtain ⟨A2, hA2⟩ : ∃ A, A = v2.heap.size := ⟨_, rfl⟩
  rw [← hA2] at G2
  rw [← hA2]
  have Q2 := G2.out
  have K2 : Kp (Below w.heap.size w u2 ∧ Blk u2 A1 (rObj f1) ∧ Blk u2 (A1 + 1) (.cells #[.int .i64 0, .string ⟨#[]⟩, .int .i64 0] 36) ∧ Blk u2 A2 (rObj f2) ∧ Blk u2 (A2 + 1) (.cells #[.int .i64 1, .string ⟨#[119, 105, 100, 116, 104]⟩, .int .i64 30] 36)) := ⟨B2.out.1.trans (Q2.2.2.mono (by rw [hA2]; exact B2.out.1.size)), B2.out.2.1.keep (by rw [hA2] at Q2; exact Q2.2.2), B2.out.2.2.keep (by rw [hA2] at Q2; exact Q2.2.2), Q2.1, Q2.2.1⟩
  clear Q2 hA2 B2 G2 E2
  go_wp2_with fail
  refine (parse3 _ (HK.out.keep K2.out.1)).mono ?_
  rintro r v3 ⟨f3, a3, b3, rfl, hb⟩
  have B3 : Kp (Below w.heap.size w v3 ∧ Blk v3 A1 (rObj f1) ∧ Blk v3 (A1 + 1) (.cells #[.int .i64 0, .string ⟨#[]⟩, .int .i64 0] 36) ∧ Blk v3 A2 (rObj f2) ∧ Blk v3 (A2 + 1) (.cells #[.int .i64 1, .string ⟨#[119, 105, 100, 116, 104]⟩, .int .i64 30] 36)) := ⟨K2.out.1.trans (hb.mono K2.out.1.size), K2.out.2.1.keep hb, K2.out.2.2.1.keep hb, K2.out.2.2.2.1.keep hb, K2.out.2.2.2.2.keep hb⟩
  clear hb K2
  go_upto_region 4 with (first
    | (refine wpList_alloc_row rfl 33 rfl (rc r0).toArray 15 HZ.out.2.2 ?_)
    | (refine wpList_alloc_row rfl 36 rfl #[.int .i64 0, .string ⟨#[]⟩, .int .i64 0] 3 HZ36.out ?_)
    | (refine wpList_store_row rfl 33 (.tmp 5) (.tmp 17) rfl v3.heap.size (rc f3).toArray rfl rfl 33 _ (w0_is v3) (HI.out _).1 (HI.out _).2.1 (HI.out _).2.2 ?_
       have E3 := Kp.mk (w1_is v3 f3)
       revert E3
       generalize World.setRow _ v3.heap.size (rc f3).toArray = y3
       intro E3)
    | (refine wpList_store_row rfl 36 (.tmp 6) (.tmp 18) rfl (v3.heap.size + 1) #[.int .i64 a3, .string b3, .int .i64 10] (by first | rfl | (go_simp; done) | (simp; done)) rfl 36 _ E3.out.2.1 info36 rfl (three_one _ _ _) ?_
       have G3 := Kp.mk (w2_is (m := #[.int .i64 a3, .string b3, .int .i64 10]) E3.out)
       revert G3
       generalize World.setRow y3 (v3.heap.size + 1) #[.int .i64 a3, .string b3, .int .i64 10] = u3
       intro G3))
  rw [show (v3.alloc (.cells (rc r0).toArray 33)).heap.size = v3.heap.size + 1 by simp]
  obtain ⟨A3, hA3⟩ : ∃ A, A = v3.heap.size := ⟨_, rfl⟩
  rw [← hA3] at G3
  rw [← hA3]
  have Q3 := G3.out
  have K3 : Kp (Below w.heap.size w u3 ∧ Blk u3 A1 (rObj f1) ∧ Blk u3 (A1 + 1) (.cells #[.int .i64 0, .string ⟨#[]⟩, .int .i64 0] 36) ∧ Blk u3 A2 (rObj f2) ∧ Blk u3 (A2 + 1) (.cells #[.int .i64 1, .string ⟨#[119, 105, 100, 116, 104]⟩, .int .i64 30] 36) ∧ Blk u3 A3 (rObj f3) ∧ Blk u3 (A3 + 1) (.cells #[.int .i64 a3, .string b3, .int .i64 10] 36)) := ⟨B3.out.1.trans (Q3.2.2.mono (by rw [hA3]; exact B3.out.1.size)), B3.out.2.1.keep (by rw [hA3] at Q3; exact Q3.2.2), B3.out.2.2.1.keep (by rw [hA3] at Q3; exact Q3.2.2), B3.out.2.2.2.1.keep (by rw [hA3] at Q3; exact Q3.2.2), B3.out.2.2.2.2.keep (by rw [hA3] at Q3; exact Q3.2.2), Q3.1, Q3.2.1⟩
  clear Q3 hA3 B3 G3 E3
  have a0 : u3.cell? ⟨A1, 0, none⟩ = some (.int .i64 2) := by rw [K3.out.2.1.rc (by decide), F1.out.1]
  have a1 : u3.cell? ⟨A1, 1, none⟩ = some (.int .i64 3) := by rw [K3.out.2.1.rc (by decide), F1.out.2.1]
  have a13 : u3.cell? ⟨A1, 13, none⟩ = some (.int .i64 700) := by rw [K3.out.2.1.rc (by decide), F1.out.2.2]
  have m10 : u3.cell? ⟨A1 + 1, 0, none⟩ = some (.int .i64 0) := K3.out.2.2.1.cell 0
  have m11 : u3.cell? ⟨A1 + 1, 1, none⟩ = some (.string ⟨#[]⟩) := K3.out.2.2.1.cell 1
  have m12 : u3.cell? ⟨A1 + 1, 2, none⟩ = some (.int .i64 0) := K3.out.2.2.1.cell 2
  have m20 : u3.cell? ⟨A2 + 1, 0, none⟩ = some (.int .i64 1) := K3.out.2.2.2.2.1.cell 0
  have m21 : u3.cell? ⟨A2 + 1, 1, none⟩ = some (.string ⟨#[119, 105, 100, 116, 104]⟩) := K3.out.2.2.2.2.1.cell 1
  have m22 : u3.cell? ⟨A2 + 1, 2, none⟩ = some (.int .i64 30) := K3.out.2.2.2.2.1.cell 2
  have m30 : u3.cell? ⟨A3 + 1, 0, none⟩ = some (.int .i64 a3) := K3.out.2.2.2.2.2.2.cell 0
  have m31 : u3.cell? ⟨A3 + 1, 1, none⟩ = some (.string b3) := K3.out.2.2.2.2.2.2.cell 1
  have m32 : u3.cell? ⟨A3 + 1, 2, none⟩ = some (.int .i64 10) := K3.out.2.2.2.2.2.2.cell 2
  have e1 : ∀ w, (binOp .eql 36 (.agg #[.int .i64 0, .string ⟨#[]⟩, .int .i64 0]) (.agg #[.int .i64 0, .string ⟨#[]⟩, .int .i64 0])).run Tryd.prog w = .ok (.bool true) w := fun w => by kernel_rfl
  have e2 : ∀ w, (binOp .eql 36 (.agg #[.int .i64 1, .string ⟨#[119, 105, 100, 116, 104]⟩, .int .i64 30]) (.agg #[.int .i64 1, .string ⟨#[119, 105, 100, 116, 104]⟩, .int .i64 30])).run Tryd.prog w = .ok (.bool true) w := fun w => by kernel_rfl
  go_wp2_with fail
  go_ret
  exact ⟨rfl, K3.out.1⟩
end Go.Proofs.YtcppmkblllappaaDoor
