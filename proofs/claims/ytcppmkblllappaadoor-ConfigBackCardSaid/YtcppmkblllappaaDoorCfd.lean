/-
  ConfigBack: the walk.
-/
import Derived.Test.YtcppmkblllappaaDoorCfc
namespace Go.Proofs.YtcppmkblllappaaDoor
open Go.RowKit

theorem wpList_load_rowG {P : Program} {ops : Array Oper} {rest : List Oper} {o : Oper} {a : Act} {w : World} {Q : Exit → Act → World → Prop} (hw : Region.wanted o (yielded ops a.tmps) = true) (ty : TypeId) (x : Operand) (ho : o.op = .load ty x)
    (g : Nat) (hx : a.eval x = .pointer (some ⟨g, 0, none⟩)) (t : TypeId) (cs : Array Value) (fr : Nat × Nat) (d : TypeDesc) (hg : w.heap[g]? = some (.cells cs t fr))
    (hu : P.underlying ty = some d) (hd : (match d with | .struct _ | .array _ _ => true | _ => false) = true) (hi : (P.info? ty).map (·.size) = some cs.size)
    (h : wpList P ops Q rest (a.put o.dst (.agg cs)) w) : wpList P ops Q (o :: rest) a w := by
  unfold wpList
  rw [if_pos hw]
  exact .inl (wp_load_row ty x ho g hx t cs fr d hg hu hd hi h)
theorem wpList_build_eqG {P : Program} {w : World} {ops : Array Oper} {rest : List Oper} {o : Oper} {a : Act} {Q : Exit → Act → World → Prop} (hw : Region.wanted o (yielded ops a.tmps) = true) (t : TypeId) (parts : Array (Nat × Operand)) (ho : o.op = .build t parts)
    (ps : Array (Nat × Value)) (hps : (parts.map fun (i, x) => (i, a.eval x)) = ps) (cells : Array Value) (hc : P.built t ps.toList = some cells) (h : wpList P ops Q rest (a.put o.dst (.agg cells)) w) : wpList P ops Q (o :: rest) a w := by
  subst hps
  unfold wpList
  rw [if_pos hw]
  refine .inl ?_
  unfold Oper.wp execOp
  simp only [ho, Sem.run_bind, run_build w t _ cells hc, Result.andThen_ok]
  exact h
set_option maxRecDepth 100000 in
set_option maxHeartbeats 12800000 in
/-- Behind the first half: what the second text tells. -/
theorem back_any (r : Nat → Int) (t : ByteArray) (w : World) (hr : I64s r) (ht : t.size ≤ maxLen) (hk : Kon w) : Calls Tryd.prog 5 #[.agg (rc r).toArray, .string t] w (TPost w) := by
  have hA := fun (w : World) => box_row (t := 40) (cs := rc r) (info40s r) w
  have HK := Kp.mk hk
  have HR := Kp.mk hr
  have HT := Kp.mk ht
  have HZ := wZ
  have HZ36 := Kp.mk info36z
  have HI : Kp (∀ f : Nat → Int, (Tryd.prog.info? 33).map (·.size) = some (rc f).toArray.size ∧ (rc r0).toArray.size = (rc f).toArray.size ∧ (rc f).toArray.all (·.oneCell') = true ∧ (Tryd.prog.info? 40).map (·.size) = some (rc f).toArray.size) := ⟨fun f => ⟨info33s f, by simp [rc_len], all_oneCell_toArray (rc_one f), info40s f⟩⟩
  obtain ⟨B, hB⟩ : ∃ B, B = w.heap.size := ⟨_, rfl⟩
  have HB := Kp.mk hB
  obtain ⟨w1, hw1⟩ : ∃ w1, w1 = w.alloc (.cells (rc r).toArray 40) := ⟨_, rfl⟩
  have HW1 := Kp.mk hw1
  have K1 : Kp (Blk w1 B (.cells (rc r).toArray 40) ∧ Below w.heap.size w w1) := ⟨by rw [hw1]; exact Blk.newAt _ hB, by rw [hw1]; exact more (Below.refl _ _) _⟩
  have HTV := fun wx hx => text_any r hr wx hx
  have HP1 := fun wx hx => parse_any (textV r) wx (Nat.le_trans (text_size r hr) (by decide)) hx
  unfold PPost at HP1
  have h64 := parse_ok64 (textV r)
  have HBO : Kp (ck r = 15 → rc (parseV (textV r)).1 = rc r ∧ (parseV (textV r)).2 = (0, ⟨#[]⟩, 0)) := ⟨fun hc => back_ok hr hc fun j hj => (ck_may hc j hj).1⟩
  have HBB : Kp (ck r ≠ 15 → (parseV (textV r)).2.2.2 ≠ 0) := ⟨back_bad hr⟩
  have HCH := fun wx => check_any r hr wx
  generalize textV r = TX at HTV HP1 h64 HBO HBB
  generalize parseV TX = V1 at HP1 h64 HBO HBB
  obtain ⟨P1, a1, a2, a3⟩ := V1
  simp only at HP1 HBO HBB h64
  have HNE : Kp (∀ w, (binOp .neq 33 (.agg (rc P1).toArray) (.agg (rc r).toArray)).run Tryd.prog w = .ok (.bool (!sameR P1 r)) w) := ⟨ne33 h64 hr⟩
  clear hB hw1 hk hr ht h64
  go_enter Tryd.func5, Tryd.ntmps5
  go_upto_region 1 with (refine wpList_box_eq rfl 40 (.tmp 0) rfl _ rfl _ _ (hA _) ?_)
  rw [← HW1.out, ← HB.out]
  clear hA HW1
  go_wp2_with (refine wpList_load_row rfl 40 (.tmp 2) rfl B rfl 40 _ (0, 0) _ K1.out.1 Tryd.underlying40 rfl (HI.out _).2.2.2 ?_)
  refine (to_any r _).mono ?_
  rintro e w2 ⟨rfl, hb⟩
  have K2 : Kp (Below w.heap.size w w2) := ⟨K1.out.2.trans (hb.mono K1.out.2.size)⟩
  clear hb K1
  obtain ⟨X, hX⟩ : ∃ X, X = w2.heap.size := ⟨_, rfl⟩
  have K3 : Kp (Blk (w2.alloc (.cells (rc r).toArray 33)) X (rObj r) ∧ Below w.heap.size w (w2.alloc (.cells (rc r).toArray 33))) := ⟨Blk.newAt _ hX, K2.out.alloc K2.out.size _⟩
  have HX := Kp.mk hX
  clear hX
  go_upto_region 2 with (first
    | (refine wpList_alloc_row rfl 33 rfl (rc r0).toArray 15 HZ.out.2.2 ?_)
    | (refine wpList_store_row rfl 33 (.tmp 5) (.tmp 17) rfl w2.heap.size (rc r).toArray rfl rfl 33 _ (Blk.new _ _) (HI.out _).1 (HI.out _).2.1 (HI.out _).2.2.1 ?_
       rw [World.setRow_alloc_new]))
  rw [← HX.out]
  clear HX K2
  revert K3
  generalize w2.alloc (.cells (rc r).toArray 33) = w3
  intro K3
  go_wp2_with (refine wpList_load_row rfl 33 (.tmp 5) rfl X rfl 33 _ (0, 0) _ K3.out.1 Tryd.underlying33 rfl (HI.out _).1 ?_)
  refine (HCH _).mono ?_
  rintro e w4 ⟨rfl, hb⟩
  have K4 : Kp (Blk w4 X (rObj r) ∧ Below w.heap.size w w4) := ⟨K3.out.1.keep hb, K3.out.2.trans (hb.mono K3.out.2.size)⟩
  clear hb K3 HCH
  go_wp2_with (refine wpList_load_row rfl 33 (.tmp 5) rfl X rfl 33 _ (0, 0) _ K4.out.1 Tryd.underlying33 rfl (HI.out _).1 ?_)
  refine (HTV _ (HK.out.keep K4.out.2)).mono ?_
  rintro e w5 ⟨rfl, hb⟩
  have K5 : Kp (Blk w5 X (rObj r) ∧ Below w.heap.size w w5) := ⟨K4.out.1.keep hb, K4.out.2.trans (hb.mono K4.out.2.size)⟩
  clear hb K4 HTV
  go_wp2_with fail
  refine (HP1 _ (HK.out.keep K5.out.2)).mono ?_
  rintro e v1 ⟨rfl, hb⟩
  have B1 : Kp (Blk v1 X (rObj r) ∧ Below w.heap.size w v1) := ⟨K5.out.1.keep hb, K5.out.2.trans (hb.mono K5.out.2.size)⟩
  clear hb K5 HP1
  go_upto_region 4 with (first
    | (refine wpList_alloc_row rfl 33 rfl (rc r0).toArray 15 HZ.out.2.2 ?_)
    | (refine wpList_alloc_row rfl 36 rfl #[.int .i64 0, .string ⟨#[]⟩, .int .i64 0] 3 HZ36.out ?_)
    | (refine wpList_store_row rfl 33 (.tmp 8) (.tmp 27) rfl v1.heap.size (rc P1).toArray rfl rfl 33 _ (w0_is v1) (HI.out _).1 (HI.out _).2.1 (HI.out _).2.2.1 ?_
       have E1 := Kp.mk (w1_is v1 P1)
       revert E1
       generalize World.setRow _ v1.heap.size (rc P1).toArray = y1
       intro E1)
    | (refine wpList_store_row rfl 36 (.tmp 9) (.tmp 28) rfl (v1.heap.size + 1) #[.int .i64 a1, .string a2, .int .i64 a3] (by first | rfl | (go_simp; done) | (simp; done)) rfl 36 _ E1.out.2.1 info36 rfl (three_one _ _ _) ?_
       have G1 := Kp.mk (w2_is (m := #[.int .i64 a1, .string a2, .int .i64 a3]) E1.out)
       revert G1
       generalize World.setRow y1 (v1.heap.size + 1) #[.int .i64 a1, .string a2, .int .i64 a3] = u1
       intro G1))
  rw [show (v1.alloc (.cells (rc r0).toArray 33)).heap.size = v1.heap.size + 1 by simp]
  obtain ⟨A1, hA1⟩ : ∃ A, A = v1.heap.size := ⟨_, rfl⟩
  rw [← hA1] at G1
  rw [← hA1]
  have Q1 := G1.out
  have K6 : Kp (Below w.heap.size w u1 ∧ Blk u1 X (rObj r) ∧ Blk u1 A1 (rObj P1) ∧ Blk u1 (A1 + 1) (.cells #[.int .i64 a1, .string a2, .int .i64 a3] 36)) := ⟨B1.out.2.trans (Q1.2.2.mono (by rw [hA1]; exact B1.out.2.size)), B1.out.1.keep (by rw [hA1] at Q1; exact Q1.2.2), Q1.1, Q1.2.1⟩
  clear Q1 hA1 B1 G1 E1
  have m12 : u1.cell? ⟨A1 + 1, 2, none⟩ = some (.int .i64 a3) := K6.out.2.2.2.cell 2
  by_cases hc : ck r = 15
  · obtain ⟨hrc, hv⟩ := HBO.out hc
    have ha3 : a3 = 0 := by injection hv with _ hv; injection hv
    have hsm : sameR P1 r = true := (sameR_iff _ _).2 hrc
    have hne := HNE.out
    rw [hsm] at hne
    have hng := neg33 P1 r
    subst ha3
    rw [show ckE r = 0 by unfold ckE; rw [if_pos hc]]
    clear hv hrc hc HBO HBB hsm HNE
    go_wp2_with (first | (refine wpList_load_rowG rfl 33 (.tmp 8) rfl A1 rfl 33 _ (0, 0) _ K6.out.2.2.1 Tryd.underlying33 rfl (HI.out _).1 ?_) | (refine wpList_load_rowG rfl 33 (.tmp 5) rfl X rfl 33 _ (0, 0) _ K6.out.2.1 Tryd.underlying33 rfl (HI.out _).1 ?_))
    refine (parse_any t _ HT.out (HK.out.keep K6.out.1)).mono ?_
    rintro e v2 ⟨rfl, hb⟩
    have B2 : Kp (Below w.heap.size w v2) := ⟨K6.out.1.trans (hb.mono K6.out.1.size)⟩
    have h64 := parse_ok64 t
    have HIS := Kp.mk (parse_is t)
    clear hb K6 m12
    generalize parseV t = V2 at h64 HIS ⊢
    obtain ⟨P2, b1, b2, b3⟩ := V2
    simp only at h64 HIS ⊢
    have H64 := Kp.mk h64
    clear h64
    go_upto_region 7 with (first
      | (refine wpList_alloc_row rfl 33 rfl (rc r0).toArray 15 HZ.out.2.2 ?_)
      | (refine wpList_alloc_row rfl 36 rfl #[.int .i64 0, .string ⟨#[]⟩, .int .i64 0] 3 HZ36.out ?_)
      | (refine wpList_store_row rfl 33 (.tmp 10) (.tmp 47) rfl v2.heap.size (rc P2).toArray rfl rfl 33 _ (w0_is v2) (HI.out _).1 (HI.out _).2.1 (HI.out _).2.2.1 ?_
         have E2 := Kp.mk (w1_is v2 P2)
         revert E2
         generalize World.setRow _ v2.heap.size (rc P2).toArray = y2
         intro E2)
      | (refine wpList_store_row rfl 36 (.tmp 11) (.tmp 48) rfl (v2.heap.size + 1) #[.int .i64 b1, .string b2, .int .i64 b3] (by first | rfl | (go_simp; done) | (simp; done)) rfl 36 _ E2.out.2.1 info36 rfl (three_one _ _ _) ?_
         have G2 := Kp.mk (w2_is (m := #[.int .i64 b1, .string b2, .int .i64 b3]) E2.out)
         revert G2
         generalize World.setRow y2 (v2.heap.size + 1) #[.int .i64 b1, .string b2, .int .i64 b3] = u2
         intro G2))
    rw [show (v2.alloc (.cells (rc r0).toArray 33)).heap.size = v2.heap.size + 1 by simp]
    obtain ⟨A2, hA2⟩ : ∃ A, A = v2.heap.size := ⟨_, rfl⟩
    rw [← hA2] at G2
    rw [← hA2]
    have Q2 := G2.out
    have K7 : Kp (Below w.heap.size w u2 ∧ Blk u2 A2 (rObj P2) ∧ Blk u2 (A2 + 1) (.cells #[.int .i64 b1, .string b2, .int .i64 b3] 36)) := ⟨B2.out.trans (Q2.2.2.mono (by rw [hA2]; exact B2.out.size)), Q2.1, Q2.2.1⟩
    clear Q2 hA2 B2 G2 E2
    have n12 : u2.cell? ⟨A2 + 1, 2, none⟩ = some (.int .i64 b3) := K7.out.2.2.cell 2
    by_cases hb3 : b3 = 0
    · subst hb3
      have hc2 : ck P2 = 15 := HIS.out.1 rfl
      have HC2 := Kp.mk hc2
      have hcE : ckE P2 = 0 := by unfold ckE; rw [if_pos hc2]
      clear hc2 HIS
      go_wp2_with (refine wpList_load_row rfl 33 (.tmp 10) rfl A2 rfl 33 _ (0, 0) _ K7.out.2.1 Tryd.underlying33 rfl (HI.out _).1 ?_)
      refine (text_any P2 H64.out _ (HK.out.keep K7.out.1)).mono ?_
      rintro e w8 ⟨rfl, hb⟩
      have K8 : Kp (Below w.heap.size w w8 ∧ Blk w8 A2 (rObj P2)) := ⟨K7.out.1.trans (hb.mono K7.out.1.size), K7.out.2.1.keep hb⟩
      clear hb K7 n12
      go_wp2_with fail
      refine (parse_any (textV P2) _ (Nat.le_trans (text_size P2 H64.out) (by decide)) (HK.out.keep K8.out.1)).mono ?_
      rintro e v3 ⟨rfl, hb⟩
      have B3 : Kp (Below w.heap.size w v3 ∧ Blk v3 A2 (rObj P2)) := ⟨K8.out.1.trans (hb.mono K8.out.1.size), K8.out.2.keep hb⟩
      have hbo := back_ok H64.out HC2.out fun j hj => (ck_may HC2.out j hj).1
      have h643 := parse_ok64 (textV P2)
      clear hb K8
      generalize textV P2 = TX2 at hbo h643 ⊢
      generalize parseV TX2 = V3 at hbo h643 ⊢
      obtain ⟨P3, c1, c2, c3⟩ := V3
      simp only at hbo h643 ⊢
      obtain ⟨hrc3, hv3⟩ := hbo
      obtain ⟨rfl, rfl, rfl⟩ : c1 = 0 ∧ c2 = ⟨#[]⟩ ∧ c3 = 0 := by simpa using hv3
      clear hv3
      have he33 := fun w => eq33 h643 H64.out w
      rw [(sameR_iff _ _).2 hrc3] at he33
      have hg33 := eqg33 P3 P2
      clear h643 hrc3
      go_upto_region 10 with (first
        | (refine wpList_alloc_row rfl 33 rfl (rc r0).toArray 15 HZ.out.2.2 ?_)
        | (refine wpList_alloc_row rfl 36 rfl #[.int .i64 0, .string ⟨#[]⟩, .int .i64 0] 3 HZ36.out ?_)
        | (refine wpList_store_row rfl 33 (.tmp 12) (.tmp 62) rfl v3.heap.size (rc P3).toArray rfl rfl 33 _ (w0_is v3) (HI.out _).1 (HI.out _).2.1 (HI.out _).2.2.1 ?_
           have E3 := Kp.mk (w1_is v3 P3)
           revert E3
           generalize World.setRow _ v3.heap.size (rc P3).toArray = y3
           intro E3)
        | (refine wpList_store_row rfl 36 (.tmp 13) (.tmp 63) rfl (v3.heap.size + 1) #[.int .i64 0, .string ⟨#[]⟩, .int .i64 0] (by first | rfl | (go_simp; done) | (simp; done)) rfl 36 _ E3.out.2.1 info36 rfl (three_one _ _ _) ?_
           have G3 := Kp.mk (w2_is (m := #[.int .i64 0, .string ⟨#[]⟩, .int .i64 0]) E3.out)
           revert G3
           generalize World.setRow y3 (v3.heap.size + 1) #[.int .i64 0, .string ⟨#[]⟩, .int .i64 0] = u3
           intro G3))
      rw [show (v3.alloc (.cells (rc r0).toArray 33)).heap.size = v3.heap.size + 1 by simp]
      obtain ⟨A3, hA3⟩ : ∃ A, A = v3.heap.size := ⟨_, rfl⟩
      rw [← hA3] at G3
      rw [← hA3]
      have Q3 := G3.out
      have K9 : Kp (Below w.heap.size w u3 ∧ Blk u3 A2 (rObj P2) ∧ Blk u3 A3 (rObj P3) ∧ Blk u3 (A3 + 1) (.cells #[.int .i64 0, .string ⟨#[]⟩, .int .i64 0] 36)) := ⟨B3.out.1.trans (Q3.2.2.mono (by rw [hA3]; exact B3.out.1.size)), B3.out.2.keep (by rw [hA3] at Q3; exact Q3.2.2), Q3.1, Q3.2.1⟩
      clear Q3 hA3 B3 G3 E3
      go_wp2_with (refine wpList_load_row rfl 33 (.tmp 10) rfl A2 rfl 33 _ (0, 0) _ K9.out.2.1 Tryd.underlying33 rfl (HI.out _).1 ?_)
      refine (check_any P2 H64.out _).mono ?_
      rintro e w10 ⟨rfl, hb⟩
      have K10 : Kp (Below w.heap.size w w10 ∧ Blk w10 A2 (rObj P2) ∧ Blk w10 A3 (rObj P3) ∧ Blk w10 (A3 + 1) (.cells #[.int .i64 0, .string ⟨#[]⟩, .int .i64 0] 36)) := ⟨K9.out.1.trans (hb.mono K9.out.1.size), K9.out.2.1.keep hb, K9.out.2.2.1.keep hb, K9.out.2.2.2.keep hb⟩
      clear hb K9
      rw [hcE]
      clear hcE
      go_wp2_with fail
      refine (awake_any _ (HK.out.keep K10.out.1)).mono ?_
      rintro e w11 ⟨rfl, hb⟩
      have K11 : Kp (Below w.heap.size w w11 ∧ Blk w11 A2 (rObj P2) ∧ Blk w11 A3 (rObj P3)) := ⟨K10.out.1.trans (hb.mono K10.out.1.size), K10.out.2.1.keep hb, K10.out.2.2.1.keep hb⟩
      have o12 : w11.cell? ⟨A3 + 1, 2, none⟩ = some (.int .i64 0) := (K10.out.2.2.2.keep hb).cell 2
      clear hb K10
      go_wp2_with (first | (refine wpList_load_rowG rfl 33 (.tmp 12) rfl A3 rfl 33 _ (0, 0) _ K11.out.2.2 Tryd.underlying33 rfl (HI.out _).1 ?_) | (refine wpList_load_rowG rfl 33 (.tmp 10) rfl A2 rfl 33 _ (0, 0) _ K11.out.2.1 Tryd.underlying33 rfl (HI.out _).1 ?_))
      go_ret
      exact ⟨rfl, K11.out.1⟩
    · have hb3' : (b3 != 0) = true := by simpa using hb3
      have hp0 : P2 = r0 := HIS.out.2 hb3
      subst hp0
      have hz := built33z
      clear HIS hb3
      go_wp2_with fail
      refine (awake_any _ (HK.out.keep K7.out.1)).mono ?_
      rintro e w8 ⟨rfl, hb⟩
      have K8 : Kp (Below w.heap.size w w8 ∧ Blk w8 A2 (rObj r0)) := ⟨K7.out.1.trans (hb.mono K7.out.1.size), K7.out.2.1.keep hb⟩
      clear hb K7 n12
      have he33 := fun w => eq33 H64.out H64.out w
      rw [(sameR_iff _ _).2 rfl] at he33
      have hg33 := eqg33 r0 r0
      go_wp2_with (first | (refine wpList_load_rowG rfl 33 (.tmp 10) rfl A2 rfl 33 _ (0, 0) _ K8.out.2 Tryd.underlying33 rfl (HI.out _).1 ?_) | (refine wpList_build_eqG rfl 33 #[] rfl #[] (by simp) (rc r0).toArray hz ?_))
      go_ret
      exact ⟨rfl, K8.out.1⟩
  · have ha3 := HBB.out hc
    have ha3' : (a3 == 0) = false := by simpa using ha3
    rw [show ckE r = 30 by unfold ckE; rw [if_neg hc]]
    clear hc HBO HBB HNE ha3
    go_wp2_with fail
    refine (parse_any t _ HT.out (HK.out.keep K6.out.1)).mono ?_
    rintro e v2 ⟨rfl, hb⟩
    have B2 : Kp (Below w.heap.size w v2) := ⟨K6.out.1.trans (hb.mono K6.out.1.size)⟩
    have h64 := parse_ok64 t
    have HIS := Kp.mk (parse_is t)
    clear hb K6 m12
    generalize parseV t = V2 at h64 HIS ⊢
    obtain ⟨P2, b1, b2, b3⟩ := V2
    simp only at h64 HIS ⊢
    have H64 := Kp.mk h64
    clear h64
    go_upto_region 7 with (first
      | (refine wpList_alloc_row rfl 33 rfl (rc r0).toArray 15 HZ.out.2.2 ?_)
      | (refine wpList_alloc_row rfl 36 rfl #[.int .i64 0, .string ⟨#[]⟩, .int .i64 0] 3 HZ36.out ?_)
      | (refine wpList_store_row rfl 33 (.tmp 10) (.tmp 47) rfl v2.heap.size (rc P2).toArray rfl rfl 33 _ (w0_is v2) (HI.out _).1 (HI.out _).2.1 (HI.out _).2.2.1 ?_
         have E2 := Kp.mk (w1_is v2 P2)
         revert E2
         generalize World.setRow _ v2.heap.size (rc P2).toArray = y2
         intro E2)
      | (refine wpList_store_row rfl 36 (.tmp 11) (.tmp 48) rfl (v2.heap.size + 1) #[.int .i64 b1, .string b2, .int .i64 b3] (by first | rfl | (go_simp; done) | (simp; done)) rfl 36 _ E2.out.2.1 info36 rfl (three_one _ _ _) ?_
         have G2 := Kp.mk (w2_is (m := #[.int .i64 b1, .string b2, .int .i64 b3]) E2.out)
         revert G2
         generalize World.setRow y2 (v2.heap.size + 1) #[.int .i64 b1, .string b2, .int .i64 b3] = u2
         intro G2))
    rw [show (v2.alloc (.cells (rc r0).toArray 33)).heap.size = v2.heap.size + 1 by simp]
    obtain ⟨A2, hA2⟩ : ∃ A, A = v2.heap.size := ⟨_, rfl⟩
    rw [← hA2] at G2
    rw [← hA2]
    have Q2 := G2.out
    have K7 : Kp (Below w.heap.size w u2 ∧ Blk u2 A2 (rObj P2) ∧ Blk u2 (A2 + 1) (.cells #[.int .i64 b1, .string b2, .int .i64 b3] 36)) := ⟨B2.out.trans (Q2.2.2.mono (by rw [hA2]; exact B2.out.size)), Q2.1, Q2.2.1⟩
    clear Q2 hA2 B2 G2 E2
    have n12 : u2.cell? ⟨A2 + 1, 2, none⟩ = some (.int .i64 b3) := K7.out.2.2.cell 2
    by_cases hb3 : b3 = 0
    · subst hb3
      have hc2 : ck P2 = 15 := HIS.out.1 rfl
      have HC2 := Kp.mk hc2
      have hcE : ckE P2 = 0 := by unfold ckE; rw [if_pos hc2]
      clear hc2 HIS
      go_wp2_with (refine wpList_load_row rfl 33 (.tmp 10) rfl A2 rfl 33 _ (0, 0) _ K7.out.2.1 Tryd.underlying33 rfl (HI.out _).1 ?_)
      refine (text_any P2 H64.out _ (HK.out.keep K7.out.1)).mono ?_
      rintro e w8 ⟨rfl, hb⟩
      have K8 : Kp (Below w.heap.size w w8 ∧ Blk w8 A2 (rObj P2)) := ⟨K7.out.1.trans (hb.mono K7.out.1.size), K7.out.2.1.keep hb⟩
      clear hb K7 n12
      go_wp2_with fail
      refine (parse_any (textV P2) _ (Nat.le_trans (text_size P2 H64.out) (by decide)) (HK.out.keep K8.out.1)).mono ?_
      rintro e v3 ⟨rfl, hb⟩
      have B3 : Kp (Below w.heap.size w v3 ∧ Blk v3 A2 (rObj P2)) := ⟨K8.out.1.trans (hb.mono K8.out.1.size), K8.out.2.keep hb⟩
      have hbo := back_ok H64.out HC2.out fun j hj => (ck_may HC2.out j hj).1
      have h643 := parse_ok64 (textV P2)
      clear hb K8
      generalize textV P2 = TX2 at hbo h643 ⊢
      generalize parseV TX2 = V3 at hbo h643 ⊢
      obtain ⟨P3, c1, c2, c3⟩ := V3
      simp only at hbo h643 ⊢
      obtain ⟨hrc3, hv3⟩ := hbo
      obtain ⟨rfl, rfl, rfl⟩ : c1 = 0 ∧ c2 = ⟨#[]⟩ ∧ c3 = 0 := by simpa using hv3
      clear hv3
      have he33 := fun w => eq33 h643 H64.out w
      rw [(sameR_iff _ _).2 hrc3] at he33
      have hg33 := eqg33 P3 P2
      clear h643 hrc3
      go_upto_region 10 with (first
        | (refine wpList_alloc_row rfl 33 rfl (rc r0).toArray 15 HZ.out.2.2 ?_)
        | (refine wpList_alloc_row rfl 36 rfl #[.int .i64 0, .string ⟨#[]⟩, .int .i64 0] 3 HZ36.out ?_)
        | (refine wpList_store_row rfl 33 (.tmp 12) (.tmp 62) rfl v3.heap.size (rc P3).toArray rfl rfl 33 _ (w0_is v3) (HI.out _).1 (HI.out _).2.1 (HI.out _).2.2.1 ?_
           have E3 := Kp.mk (w1_is v3 P3)
           revert E3
           generalize World.setRow _ v3.heap.size (rc P3).toArray = y3
           intro E3)
        | (refine wpList_store_row rfl 36 (.tmp 13) (.tmp 63) rfl (v3.heap.size + 1) #[.int .i64 0, .string ⟨#[]⟩, .int .i64 0] (by first | rfl | (go_simp; done) | (simp; done)) rfl 36 _ E3.out.2.1 info36 rfl (three_one _ _ _) ?_
           have G3 := Kp.mk (w2_is (m := #[.int .i64 0, .string ⟨#[]⟩, .int .i64 0]) E3.out)
           revert G3
           generalize World.setRow y3 (v3.heap.size + 1) #[.int .i64 0, .string ⟨#[]⟩, .int .i64 0] = u3
           intro G3))
      rw [show (v3.alloc (.cells (rc r0).toArray 33)).heap.size = v3.heap.size + 1 by simp]
      obtain ⟨A3, hA3⟩ : ∃ A, A = v3.heap.size := ⟨_, rfl⟩
      rw [← hA3] at G3
      rw [← hA3]
      have Q3 := G3.out
      have K9 : Kp (Below w.heap.size w u3 ∧ Blk u3 A2 (rObj P2) ∧ Blk u3 A3 (rObj P3) ∧ Blk u3 (A3 + 1) (.cells #[.int .i64 0, .string ⟨#[]⟩, .int .i64 0] 36)) := ⟨B3.out.1.trans (Q3.2.2.mono (by rw [hA3]; exact B3.out.1.size)), B3.out.2.keep (by rw [hA3] at Q3; exact Q3.2.2), Q3.1, Q3.2.1⟩
      clear Q3 hA3 B3 G3 E3
      go_wp2_with (refine wpList_load_row rfl 33 (.tmp 10) rfl A2 rfl 33 _ (0, 0) _ K9.out.2.1 Tryd.underlying33 rfl (HI.out _).1 ?_)
      refine (check_any P2 H64.out _).mono ?_
      rintro e w10 ⟨rfl, hb⟩
      have K10 : Kp (Below w.heap.size w w10 ∧ Blk w10 A2 (rObj P2) ∧ Blk w10 A3 (rObj P3) ∧ Blk w10 (A3 + 1) (.cells #[.int .i64 0, .string ⟨#[]⟩, .int .i64 0] 36)) := ⟨K9.out.1.trans (hb.mono K9.out.1.size), K9.out.2.1.keep hb, K9.out.2.2.1.keep hb, K9.out.2.2.2.keep hb⟩
      clear hb K9
      rw [hcE]
      clear hcE
      go_wp2_with fail
      refine (awake_any _ (HK.out.keep K10.out.1)).mono ?_
      rintro e w11 ⟨rfl, hb⟩
      have K11 : Kp (Below w.heap.size w w11 ∧ Blk w11 A2 (rObj P2) ∧ Blk w11 A3 (rObj P3)) := ⟨K10.out.1.trans (hb.mono K10.out.1.size), K10.out.2.1.keep hb, K10.out.2.2.1.keep hb⟩
      have o12 : w11.cell? ⟨A3 + 1, 2, none⟩ = some (.int .i64 0) := (K10.out.2.2.2.keep hb).cell 2
      clear hb K10
      go_wp2_with (first | (refine wpList_load_rowG rfl 33 (.tmp 12) rfl A3 rfl 33 _ (0, 0) _ K11.out.2.2 Tryd.underlying33 rfl (HI.out _).1 ?_) | (refine wpList_load_rowG rfl 33 (.tmp 10) rfl A2 rfl 33 _ (0, 0) _ K11.out.2.1 Tryd.underlying33 rfl (HI.out _).1 ?_))
      go_ret
      exact ⟨rfl, K11.out.1⟩
    · have hb3' : (b3 != 0) = true := by simpa using hb3
      have hp0 : P2 = r0 := HIS.out.2 hb3
      subst hp0
      have hz := built33z
      clear HIS hb3
      go_wp2_with fail
      refine (awake_any _ (HK.out.keep K7.out.1)).mono ?_
      rintro e w8 ⟨rfl, hb⟩
      have K8 : Kp (Below w.heap.size w w8 ∧ Blk w8 A2 (rObj r0)) := ⟨K7.out.1.trans (hb.mono K7.out.1.size), K7.out.2.1.keep hb⟩
      clear hb K7 n12
      have he33 := fun w => eq33 H64.out H64.out w
      rw [(sameR_iff _ _).2 rfl] at he33
      have hg33 := eqg33 r0 r0
      go_wp2_with (first | (refine wpList_load_rowG rfl 33 (.tmp 10) rfl A2 rfl 33 _ (0, 0) _ K8.out.2 Tryd.underlying33 rfl (HI.out _).1 ?_) | (refine wpList_build_eqG rfl 33 #[] rfl #[] (by simp) (rc r0).toArray hz ?_))
      go_ret
      exact ⟨rfl, K8.out.1⟩
end Go.Proofs.YtcppmkblllappaaDoor
