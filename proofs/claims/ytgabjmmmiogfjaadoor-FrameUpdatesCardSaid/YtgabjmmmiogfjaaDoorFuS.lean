/-
  The law's FromUpdate.
-/
import Derived.Test.YtgabjmmmiogfjaaDoorFuR
namespace Go.Proofs.YtgabjmmmiogfjaaDoor
open Go.RowKit

set_option maxRecDepth 100000 in
set_option maxHeartbeats 16000000 in
theorem fromUpdate_any (u : Bool) (a : Option Addr) (n c : Nat) (f : Nat → E3) (w : World) (h : HoldsW w w.heap.size a n f) (hn : n ≤ 1000000) :
    Calls Tryd.prog 27 #[.agg #[.bool u, .slice a n c]] w (TPost 105 40 u n f w) := by
  obtain ⟨A, hA⟩ : ∃ A, A = w.heap.size := ⟨_, rfl⟩
  have HAe := Kp.mk hA
  have HN := Kp.mk hn
  obtain ⟨i0, hi0, hz0, hz1, hz2⟩ := info_parts info105z
  have S0 : Kp (TS w A 57 52 105 40 u n a c f (.slice none 0 0) [] (((w.alloc (.cells #[.bool u, .slice a n c] 57)).alloc (.cells #[.bool false, .slice none 0 0] 52)).alloc (.cells #[.bool u, .slice none 0 0] 52))) := ⟨((Blk.newAt _ hA).old _).old _, (Blk.newAt _ (by simp [hA])).old _, Blk.newAt _ (by simp [hA]), ⟨World.ownsRow_nil _ _ _ _, fun z hz => by cases hz⟩, by rw [hA]; exact ((h.keep (more (Below.refl _ _) _)).keep (more (Below.refl _ _) _)).keep (more (Below.refl _ _) _), by rw [hA]; exact more (more (more (Below.refl _ _) _) _) _⟩
  clear h
  go_enter Tryd.func27, Tryd.ntmps27
  go_wp2_with fail
  rw [← hA, show A + 1 + 1 = A + 2 from rfl]
  clear hA
  generalize ((w.alloc (.cells #[.bool u, .slice a n c] 57)).alloc (.cells #[.bool false, .slice none 0 0] 52)).alloc (.cells #[.bool u, .slice none 0 0] 52) = W at *
  go_loopw [12] (fun ct wr => ∃ (i : Nat) (av : Option Addr) (nv cv : Nat) (xs : List E3), i ≤ n ∧ ct = .int .i64 i ∧ Kp (TS w A 57 52 105 40 u n a c f (.slice av nv cv) xs wr) ∧ Kp (SameRow f i xs)) (fun ct _ => n - (intOf ct).toNat)
  case atStart => exact ⟨0, none, 0, 0, [], by omega, rfl, S0, ⟨rfl, fun j z hz => by simp at hz⟩⟩
  case round =>
    obtain ⟨i, av, nv, cv, xs, hi, rfl, HS, HXS⟩ := hrel
    by_cases hlt : i < n
    · obtain ⟨b, off, rfl, -, -, k1⟩ := HS.out.e.c i hlt
      have HEI := Kp.mk (HS.out.e.e i hlt)
      have HRG := Kp.mk k1
      obtain ⟨x, hx⟩ : ∃ x, x = f i := ⟨_, rfl⟩
      have HX := Kp.mk hx
      rw [← hx] at HEI HRG
      have HIX := Kp.mk (info115w HEI.out.l)
      have HLEN : Kp ((Tryd.prog.info? 115).map (·.size) = some (ec x.1).length) := ⟨by have := HIX.out; simpa using this⟩
      have HSZ : Kp ((ec x.1).toArray.size = 22) := ⟨by rw [List.size_toArray]; exact ec_len HEI.out.l⟩
      have HC18 : Kp ((Tryd.prog.info? 113).map (·.size) = some (cc x.1.lf x.1.wa x.1.wn x.1.wc x.1.pa x.1.pn x.1.pc).length) := ⟨by rw [cc_len HEI.out.l]; kernel_rfl⟩
      clear k1 hx
      obtain ⟨T, hT⟩ : ∃ T, T = wr.heap.size := ⟨_, rfl⟩
      have HTe := Kp.mk hT
      have HVT : Kp (∀ k, (Value.slice av nv cv).ownBlock = some k → k < T) := ⟨by rw [hT]; exact ownsRow_top HS.out.es.v⟩
      have HVA : Kp (A + 2 < T) := ⟨by rw [hT]; exact HS.out.h.lt⟩
      clear hT
      go_wp2_with (first
        | (refine wpList_load_mid rfl 115 (.tmp 14) rfl b (off + i * 22) rfl (ec x.1) _ HRG.out Tryd.underlying115 rfl HLEN.out ?_)
        | (refine wpList_store_row rfl 115 (.tmp 5) (.tmp 15) rfl wr.heap.size (ec x.1).toArray rfl rfl 115 _ (Blk.newAt _ rfl) HIX.out (by rw [HSZ.out]; rfl) (ec_one x.1) ?_; rw [← HTe.out]; refine wpl_world (fun W => TS w A 57 52 105 40 u n (some ⟨b, off, none⟩) c f (.slice av nv cv) xs W ∧ Blk W T (.cells (ec x.1).toArray 115) ∧ EIw W A x) ⟨by rw [HTe.out, World.setRow_alloc_new]; exact HS.out.more (more (Below.refl _ _) _), by rw [HTe.out, World.setRow_alloc_new]; exact Blk.new _ _, by rw [HTe.out, World.setRow_alloc_new]; exact HEI.out.keep (more (Below.refl _ _) _)⟩ ?_; rintro W6 h6; have S6 := Kp.mk h6; clear h6))
      clear HS HEI HRG
      refine wp_region_held_drew (S := fun w' => Kp (Blk w' T (.cells (ec x.1).toArray 115))) (by kernel_rfl) (⟨S6.out.2.1⟩) (fun hH => ?_)
      refine wpAnyH_take (i := 0) (oi := { dst := some 16, op := Go.Op.fieldAddr 52 (Go.Operand.tmp 3) 1, type := 0, pos := "law.go:35", after := #[], guard := none }) (v := .pointer (some ⟨A + 2, 1, none⟩)) rfl (by kernel_rfl) (by kernel_rfl) (by kernel_rfl) (fun _ _ _ h => h) (Or.inl ⟨by rfl, fun w hS => by first | rfl | go_simp⟩) hH ?_
      simp only [Act.put, List.setIfInBounds_toArray, List.set_cons_zero, List.set_cons_succ]
      refine wpAnyH_take (i := 2) (oi := { dst := some 18, op := Go.Op.fieldAddr 115 (Go.Operand.tmp 5) 0, type := 0, pos := "law.go:35", after := #[], guard := none }) (v := .pointer (some ⟨T, 0, none⟩)) rfl (by kernel_rfl) (by kernel_rfl) (by kernel_rfl) (fun _ _ _ h => h) (Or.inl ⟨by rfl, fun w hS => by first | rfl | go_simp⟩) hH ?_
      simp only [Act.put, List.setIfInBounds_toArray, List.set_cons_zero, List.set_cons_succ]
      refine wpAnyH_take (i := 3) (oi := { dst := some 19, op := Go.Op.load 3 (Go.Operand.tmp 18), type := 3, pos := "law.go:35", after := #[{ on := 2, ground := Go.Ground.data }], guard := none }) (v := .int .i64 x.1.d) rfl (by kernel_rfl) (by kernel_rfl) (by kernel_rfl) (fun _ _ _ h => h) (Or.inl ⟨by rfl, fun w hS => by have c1 : w.cell? ⟨T, 0, none⟩ = some (.int .i64 x.1.d) := hS.out.cell 0; go_simp⟩) hH ?_
      simp only [Act.put, List.setIfInBounds_toArray, List.set_cons_zero, List.set_cons_succ]
      refine wpAnyH_take (i := 4) (oi := { dst := some 20, op := Go.Op.fieldAddr 115 (Go.Operand.tmp 5) 1, type := 0, pos := "law.go:35", after := #[], guard := none }) (v := .pointer (some ⟨T, 1, none⟩)) rfl (by kernel_rfl) (by kernel_rfl) (by kernel_rfl) (fun _ _ _ h => h) (Or.inl ⟨by rfl, fun w hS => by first | rfl | go_simp⟩) hH ?_
      simp only [Act.put, List.setIfInBounds_toArray, List.set_cons_zero, List.set_cons_succ]
      refine wpAnyH_take (i := 5) (oi := { dst := some 21, op := Go.Op.load 110 (Go.Operand.tmp 20), type := 110, pos := "law.go:35", after := #[{ on := 4, ground := Go.Ground.data }], guard := none }) (v := .agg #[.int .u32 x.1.e, .int .u32 x.1.s, .int .i64 x.1.m]) rfl (by kernel_rfl) (by kernel_rfl) (by kernel_rfl) (fun _ _ _ h => h) (Or.inl ⟨by rfl, fun w hS => exec_load_mid (x := .tmp 20) rfl rfl (ec_key (ec_range hS.out)) Tryd.underlying110 rfl (by kernel_rfl)⟩) hH ?_
      simp only [Act.put, List.setIfInBounds_toArray, List.set_cons_zero, List.set_cons_succ]
      refine wpAnyH_take (i := 7) (oi := { dst := some 23, op := Go.Op.fieldAddr 115 (Go.Operand.tmp 5) 2, type := 0, pos := "law.go:35", after := #[], guard := none }) (v := .pointer (some ⟨T, 4, none⟩)) rfl (by kernel_rfl) (by kernel_rfl) (by kernel_rfl) (fun _ _ _ h => h) (Or.inl ⟨by rfl, fun w hS => by first | rfl | go_simp⟩) hH ?_
      simp only [Act.put, List.setIfInBounds_toArray, List.set_cons_zero, List.set_cons_succ]
      refine wpAnyH_take (i := 8) (oi := { dst := some 24, op := Go.Op.load 113 (Go.Operand.tmp 23), type := 113, pos := "law.go:35", after := #[{ on := 7, ground := Go.Ground.data }], guard := none }) (v := .agg (cc x.1.lf x.1.wa x.1.wn x.1.wc x.1.pa x.1.pn x.1.pc).toArray) rfl (by kernel_rfl) (by kernel_rfl) (by kernel_rfl) (fun _ _ _ h => h) (Or.inl ⟨by rfl, fun w hS => exec_load_mid (x := .tmp 23) rfl rfl (ec_cred (ec_range hS.out)) Tryd.underlying113 rfl HC18.out⟩) hH ?_
      simp only [Act.put, List.setIfInBounds_toArray, List.set_cons_zero, List.set_cons_succ]
      refine wpAnyH_ready (rs := [1, 6]) (by kernel_rfl) (by simp) ?_
      refine AllReadyH.cons (o := { dst := some 17, op := Go.Op.load 50 (Go.Operand.tmp 16), type := 50, pos := "law.go:35", after := #[{ on := 0, ground := Go.Ground.data }], guard := none }) rfl (fun K hK => ?_) (AllReadyH.cons (o := { dst := some 22, op := Go.Op.call { callee := Go.Callee.value (Go.Operand.func 67), args := #[Go.Operand.tmp 21], argTypes := #[110] }, type := 100, pos := "law.go:35", after := #[{ on := 5, ground := Go.Ground.data }], guard := none }) rfl (fun K hK => ?_) AllReadyH.nil)
      · have q2 : World.cell? W6.drew ⟨A + 2, 1, none⟩ = some (.slice av nv cv) := S6.out.1.h.cell 1
        go_simp
        clear q2
        refine hK.out _ _ (hH) (fun hHn => ?_)
        clear hK K hH
        have hH := hHn
        clear hHn
        try simp only [Act.put, List.setIfInBounds_toArray, List.set_cons_zero, List.set_cons_succ]
        refine wpAnyH_ready (rs := [6]) (by kernel_rfl) (by simp) ?_
        refine AllReadyH.cons (o := { dst := some 22, op := Go.Op.call { callee := Go.Callee.value (Go.Operand.func 67), args := #[Go.Operand.tmp 21], argTypes := #[110] }, type := 100, pos := "law.go:35", after := #[{ on := 5, ground := Go.Ground.data }], guard := none }) rfl (fun K hK => ?_) AllReadyH.nil
        go_simp
        refine (kfrom_any x.1.e x.1.s x.1.m W6.drew).mono ?_
        rintro r w1 ⟨rfl, hb⟩
        have S7 : Kp (TS w A 57 52 105 40 u n (some ⟨b, off, none⟩) c f (.slice av nv cv) xs w1 ∧ Blk w1 T (.cells (ec x.1).toArray 115) ∧ EIw w1 A x) := ⟨(S6.out.1.more (Below.refl _ _).drew).more hb, (S6.out.2.1.keep (Below.refl _ _).drew).keep hb, (S6.out.2.2.keep (Below.refl _ _).drew).keep hb⟩
        clear hb S6
        refine hK.out _ _ (⟨S7.out.2.1⟩) (fun hHn => ?_)
        clear hK K hH
        have hH := hHn
        clear hHn
        try simp only [Act.put, List.setIfInBounds_toArray, List.set_cons_zero, List.set_cons_succ]
        refine wpAnyH_ready (rs := [9]) (by kernel_rfl) (by simp) ?_
        refine AllReadyH.cons (o := { dst := some 25, op := Go.Op.call { callee := Go.Callee.value (Go.Operand.func 68), args := #[Go.Operand.tmp 24], argTypes := #[113] }, type := 103, pos := "law.go:35", after := #[{ on := 8, ground := Go.Ground.data }, { on := 6, ground := Go.Ground.chain }], guard := none }) rfl (fun K hK => ?_) AllReadyH.nil
        go_simp
        refine (fromcred_any x.1.lf x.1.wa x.1.wn x.1.wc x.1.pa x.1.pn x.1.pc x.2.1 x.2.2 w1 S7.out.2.2.l S7.out.2.2.hw S7.out.2.2.hp ⟨by have := S7.out.2.2.wn; omega, by have := S7.out.2.2.pn; omega⟩).mono ?_
        rintro r w2 ⟨a4, c4, a7, c7, rfl, h4, h7, hb⟩
        obtain ⟨z, hz⟩ : ∃ z : E3, z = (⟨x.1.d, x.1.e, x.1.s, x.1.m, x.1.lf, a4, x.1.wn, c4, a7, x.1.pn, c7⟩, x.2.1, x.2.2) := ⟨_, rfl⟩
        have HZ9 : Kp (SameE x z) := ⟨by rw [hz]; exact ⟨rfl, rfl, rfl, rfl, rfl, rfl, rfl, rfl, rfl⟩⟩
        have HZL : Kp (z.1.lf.length = 16) := ⟨by rw [hz]; exact S7.out.2.2.l⟩
        have S8 : Kp (TS w A 57 52 105 40 u n (some ⟨b, off, none⟩) c f (.slice av nv cv) xs w2 ∧ Blk w2 T (.cells (ec x.1).toArray 115) ∧ EOw w2 40 (A + 3) z) := ⟨S7.out.1.more hb, S7.out.2.1.keep hb, by
          rw [hz]
          exact ⟨S7.out.2.2.l, S7.out.2.2.b, S7.out.2.2.hw.lenB.1, S7.out.2.2.hp.lenB.1, Nat.le_trans S7.out.2.2.wn (by decide), Nat.le_trans S7.out.2.2.pn (by decide), S7.out.2.2.hw.lenB.2, S7.out.2.2.hp.lenB.2, ownsRow_base h4 (by have := S7.out.1.h.lt; omega), ownsRow_base h7 (by have := S7.out.1.h.lt; omega)⟩⟩
        have HBD : Kp (∀ w, (Instr.build 105 #[(0, .int .i64 x.1.d), (1, .agg #[.int .u32 x.1.e, .int .u32 x.1.s, .int .i64 x.1.m]), (2, .agg (cc x.1.lf a4 x.1.wn c4 a7 x.1.pn c7).toArray)]).run Tryd.prog w = .ok (.agg (ec z.1).toArray) w) := ⟨fun w => by rw [hz]; exact build105q S7.out.2.2.l x.1.d x.1.e x.1.s x.1.m a4 x.1.wn c4 a7 x.1.pn c7 w⟩
        clear hb h4 h7 S7 hz
        refine hK.out _ _ (⟨S8.out.2.1⟩) (fun hHn => ?_)
        clear hK K hH
        have hH := hHn
        clear hHn
        try simp only [Act.put, List.setIfInBounds_toArray, List.set_cons_zero, List.set_cons_succ]
        refine wpAnyH_take (i := 10) (oi := { dst := some 26, op := Go.Op.build 105 #[(0, Go.Operand.tmp 19), (1, Go.Operand.tmp 22), (2, Go.Operand.tmp 25)], type := 105, pos := "law.go:35", after := #[{ on := 3, ground := Go.Ground.data }, { on := 6, ground := Go.Ground.data }, { on := 9, ground := Go.Ground.data }], guard := none }) (v := .agg (ec z.1).toArray) rfl (by kernel_rfl) (by kernel_rfl) (by kernel_rfl) (fun _ _ _ h => h) (Or.inl ⟨by rfl, fun w hS => exec_build3 (x := .tmp 19) (y := .tmp 22) (z := .tmp 25) rfl rfl rfl rfl (HBD.out w)⟩) hH ?_
        simp only [Act.put, List.setIfInBounds_toArray, List.set_cons_zero, List.set_cons_succ]
        refine wpAnyH_ready (rs := [11]) (by kernel_rfl) (by simp) ?_
        refine AllReadyH.cons (o := { dst := some 27, op := Go.Op.buildSlice 50 1 #[(0, Go.Operand.tmp 26)], type := 50, pos := "law.go:35", after := #[{ on := 10, ground := Go.Ground.data }], guard := none }) rfl (fun K hK => ?_) AllReadyH.nil
        rw [if_pos (by rfl)]
        refine wp_buildSlice_one 50 1 (.tmp 26) rfl (ecV z.1) rfl _ _ (build50s HZL.out w2) ?_
        refine hK.out _ _ (⟨S8.out.2.1.keep (more (Below.refl _ _) _)⟩) (fun hHn => ?_)
        clear hK K hH
        have hH := hHn
        clear hHn
        try simp only [Act.put, List.setIfInBounds_toArray, List.set_cons_zero, List.set_cons_succ]
        refine wpAnyH_ready (rs := [12]) (by kernel_rfl) (by simp) ?_
        refine AllReadyH.cons (o := { dst := some 28, op := Go.Op.call { callee := Go.Callee.builtin Go.Builtin.append, args := #[Go.Operand.tmp 17, Go.Operand.tmp 27], argTypes := #[50, 50] }, type := 50, pos := "law.go:35", after := #[{ on := 1, ground := Go.Ground.data }, { on := 11, ground := Go.Ground.data }, { on := 9, ground := Go.Ground.chain }], guard := none }) rfl (fun K hK => ?_) AllReadyH.nil
        refine step_append_lies _ rfl (.tmp 17) (.tmp 27) 50 rfl (A + 3) 105 i0 (.agg (ec x0).toArray) 22 88 Tryd.underlying50 hi0 hz0 hz1 hz2 rfl (by decide) (.slice av nv cv) xs.length (ecs xs) rfl (S8.out.1.es.keep (more (Below.refl _ _) _)).v ⟨w2.heap.size, 0, none⟩ 1 1 (ec z.1) rfl ?e0 ?e1 ?e2 (by decide) ?e3 ?e4 ?e5 (w2.heap.size + 1) ?e6 ?_
        case e0 => rw [ec_len HZL.out]
        case e1 => exact World.news_of_block (Blk.new w2 (.cells (ec z.1).toArray 105))
        case e2 => exact fun u hu => List.all_eq_true.1 (by simpa using ec_one z.1) u hu
        case e3 => have := HXS.out.1; have := HN.out; unfold maxLen; omega
        case e4 => have := HXS.out.1; have := HN.out; omega
        case e5 => have := S8.out.1.h.lt; simp; omega
        case e6 => simp
        intro g capN w3 ho hg hv hlt9
        have HT3 : Kp (Blk w3 T (.cells (ec x.1).toArray 115)) := ⟨(hg.block T (by have := S8.out.2.1.lt; simp; omega) (fun e => by have := HVT.out T e.symm; omega)).trans (S8.out.2.1.keep (more (Below.refl _ _) _))⟩
        have HH8 : Kp (Blk w3 (A + 2) (.cells #[.bool u, .slice av nv cv] 52)) := ⟨S8.out.1.h.upto (below_row_grown (B := A + 3) ((more (Below.refl _ _) _).mono (by have := S8.out.1.h.lt; omega)) (by have := S8.out.1.h.lt; simp; omega) (S8.out.1.es.keep (more (Below.refl _ _) _)).v hg) (by omega)⟩
        have S9 := Kp.mk (S8.out.1.app S8.out.2.2 (by decide) ho hg)
        clear ho hg hv hlt9 S8
        refine hK.out _ _ (⟨HT3.out⟩) (fun hHn => ?_)
        clear hK K hH
        have hH := hHn
        clear hHn
        try simp only [Act.put, List.setIfInBounds_toArray, List.set_cons_zero, List.set_cons_succ]
        refine wpAnyH_take (i := 13) (oi := { dst := some 29, op := Go.Op.fieldAddr 52 (Go.Operand.tmp 3) 1, type := 0, pos := "law.go:35", after := #[{ on := 0, ground := Go.Ground.phase }, { on := 1, ground := Go.Ground.phase }, { on := 2, ground := Go.Ground.phase }, { on := 3, ground := Go.Ground.phase }, { on := 4, ground := Go.Ground.phase }, { on := 5, ground := Go.Ground.phase }, { on := 6, ground := Go.Ground.phase }, { on := 7, ground := Go.Ground.phase }, { on := 8, ground := Go.Ground.phase }, { on := 9, ground := Go.Ground.phase }, { on := 10, ground := Go.Ground.phase }, { on := 11, ground := Go.Ground.phase }, { on := 12, ground := Go.Ground.phase }], guard := none }) (v := .pointer (some ⟨A + 2, 1, none⟩)) rfl (by kernel_rfl) (by kernel_rfl) (by kernel_rfl) (fun _ _ _ h => h) (Or.inl ⟨by rfl, fun w hS => by first | rfl | go_simp⟩) hH ?_
        simp only [Act.put, List.setIfInBounds_toArray, List.set_cons_zero, List.set_cons_succ]
        refine wpAnyH_ready (rs := [14]) (by kernel_rfl) (by simp) ?_
        refine AllReadyH.cons (o := { dst := none, op := Go.Op.store 50 (Go.Operand.tmp 29) (Go.Operand.tmp 28), type := 0, pos := "law.go:35", after := #[{ on := 13, ground := Go.Ground.data }, { on := 12, ground := Go.Ground.data }, { on := 12, ground := Go.Ground.chain }, { on := 0, ground := Go.Ground.phase }, { on := 1, ground := Go.Ground.phase }, { on := 2, ground := Go.Ground.phase }, { on := 3, ground := Go.Ground.phase }, { on := 4, ground := Go.Ground.phase }, { on := 5, ground := Go.Ground.phase }, { on := 6, ground := Go.Ground.phase }, { on := 7, ground := Go.Ground.phase }, { on := 8, ground := Go.Ground.phase }, { on := 9, ground := Go.Ground.phase }, { on := 10, ground := Go.Ground.phase }, { on := 11, ground := Go.Ground.phase }, { on := 12, ground := Go.Ground.phase }], guard := none }) rfl (fun K hK => ?_) AllReadyH.nil
        have q2 := HH8.out.cell 1
        have q3 := HH8.out.frozen 1
        go_simp
        clear q2 q3
        refine hK.out _ _ (⟨((Turn.same HH8.out).set 1 _).keep HT3.out (by have := HVA.out; omega)⟩) (fun hHn => ?_)
        clear hK K hH
        have hH := hHn
        clear hHn
        try simp only [Act.put, List.setIfInBounds_toArray, List.set_cons_zero, List.set_cons_succ]
        clear hH HT3 HH8
        refine wpAnyH_done (by kernel_rfl) ?_ _
        refine ex_worldU (fun W => TS w A 57 52 105 40 u n (some ⟨b, off, none⟩) c f (.slice (some ⟨g, 0, none⟩) (xs.length + 1) capN) (xs ++ [z]) W) S9.out ?_
        intro W9 hW
        have G9 := Kp.mk hW
        clear hW S9
        go_wp2_with fail
        exact ⟨⟨i + 1, _, _, _, xs ++ [z], by omega, by go_num, G9, ⟨SameRow.app HXS.out (by rw [← HX.out]; exact HZ9.out)⟩⟩, by simp [intOf]; omega⟩
      · go_simp
        refine (kfrom_any x.1.e x.1.s x.1.m W6.drew).mono ?_
        rintro r w1 ⟨rfl, hb⟩
        have S7 : Kp (TS w A 57 52 105 40 u n (some ⟨b, off, none⟩) c f (.slice av nv cv) xs w1 ∧ Blk w1 T (.cells (ec x.1).toArray 115) ∧ EIw w1 A x) := ⟨(S6.out.1.more (Below.refl _ _).drew).more hb, (S6.out.2.1.keep (Below.refl _ _).drew).keep hb, (S6.out.2.2.keep (Below.refl _ _).drew).keep hb⟩
        clear hb S6
        refine hK.out _ _ (⟨S7.out.2.1⟩) (fun hHn => ?_)
        clear hK K hH
        have hH := hHn
        clear hHn
        try simp only [Act.put, List.setIfInBounds_toArray, List.set_cons_zero, List.set_cons_succ]
        refine wpAnyH_ready (rs := [1, 9]) (by kernel_rfl) (by simp) ?_
        refine AllReadyH.cons (o := { dst := some 17, op := Go.Op.load 50 (Go.Operand.tmp 16), type := 50, pos := "law.go:35", after := #[{ on := 0, ground := Go.Ground.data }], guard := none }) rfl (fun K hK => ?_) (AllReadyH.cons (o := { dst := some 25, op := Go.Op.call { callee := Go.Callee.value (Go.Operand.func 68), args := #[Go.Operand.tmp 24], argTypes := #[113] }, type := 103, pos := "law.go:35", after := #[{ on := 8, ground := Go.Ground.data }, { on := 6, ground := Go.Ground.chain }], guard := none }) rfl (fun K hK => ?_) AllReadyH.nil)
        · have q2 : World.cell? w1 ⟨A + 2, 1, none⟩ = some (.slice av nv cv) := S7.out.1.h.cell 1
          go_simp
          clear q2
          refine hK.out _ _ (hH) (fun hHn => ?_)
          clear hK K hH
          have hH := hHn
          clear hHn
          try simp only [Act.put, List.setIfInBounds_toArray, List.set_cons_zero, List.set_cons_succ]
          refine wpAnyH_ready (rs := [9]) (by kernel_rfl) (by simp) ?_
          refine AllReadyH.cons (o := { dst := some 25, op := Go.Op.call { callee := Go.Callee.value (Go.Operand.func 68), args := #[Go.Operand.tmp 24], argTypes := #[113] }, type := 103, pos := "law.go:35", after := #[{ on := 8, ground := Go.Ground.data }, { on := 6, ground := Go.Ground.chain }], guard := none }) rfl (fun K hK => ?_) AllReadyH.nil
          go_simp
          refine (fromcred_any x.1.lf x.1.wa x.1.wn x.1.wc x.1.pa x.1.pn x.1.pc x.2.1 x.2.2 w1 S7.out.2.2.l S7.out.2.2.hw S7.out.2.2.hp ⟨by have := S7.out.2.2.wn; omega, by have := S7.out.2.2.pn; omega⟩).mono ?_
          rintro r w2 ⟨a4, c4, a7, c7, rfl, h4, h7, hb⟩
          obtain ⟨z, hz⟩ : ∃ z : E3, z = (⟨x.1.d, x.1.e, x.1.s, x.1.m, x.1.lf, a4, x.1.wn, c4, a7, x.1.pn, c7⟩, x.2.1, x.2.2) := ⟨_, rfl⟩
          have HZ9 : Kp (SameE x z) := ⟨by rw [hz]; exact ⟨rfl, rfl, rfl, rfl, rfl, rfl, rfl, rfl, rfl⟩⟩
          have HZL : Kp (z.1.lf.length = 16) := ⟨by rw [hz]; exact S7.out.2.2.l⟩
          have S8 : Kp (TS w A 57 52 105 40 u n (some ⟨b, off, none⟩) c f (.slice av nv cv) xs w2 ∧ Blk w2 T (.cells (ec x.1).toArray 115) ∧ EOw w2 40 (A + 3) z) := ⟨S7.out.1.more hb, S7.out.2.1.keep hb, by
            rw [hz]
            exact ⟨S7.out.2.2.l, S7.out.2.2.b, S7.out.2.2.hw.lenB.1, S7.out.2.2.hp.lenB.1, Nat.le_trans S7.out.2.2.wn (by decide), Nat.le_trans S7.out.2.2.pn (by decide), S7.out.2.2.hw.lenB.2, S7.out.2.2.hp.lenB.2, ownsRow_base h4 (by have := S7.out.1.h.lt; omega), ownsRow_base h7 (by have := S7.out.1.h.lt; omega)⟩⟩
          have HBD : Kp (∀ w, (Instr.build 105 #[(0, .int .i64 x.1.d), (1, .agg #[.int .u32 x.1.e, .int .u32 x.1.s, .int .i64 x.1.m]), (2, .agg (cc x.1.lf a4 x.1.wn c4 a7 x.1.pn c7).toArray)]).run Tryd.prog w = .ok (.agg (ec z.1).toArray) w) := ⟨fun w => by rw [hz]; exact build105q S7.out.2.2.l x.1.d x.1.e x.1.s x.1.m a4 x.1.wn c4 a7 x.1.pn c7 w⟩
          clear hb h4 h7 S7 hz
          refine hK.out _ _ (⟨S8.out.2.1⟩) (fun hHn => ?_)
          clear hK K hH
          have hH := hHn
          clear hHn
          try simp only [Act.put, List.setIfInBounds_toArray, List.set_cons_zero, List.set_cons_succ]
          refine wpAnyH_take (i := 10) (oi := { dst := some 26, op := Go.Op.build 105 #[(0, Go.Operand.tmp 19), (1, Go.Operand.tmp 22), (2, Go.Operand.tmp 25)], type := 105, pos := "law.go:35", after := #[{ on := 3, ground := Go.Ground.data }, { on := 6, ground := Go.Ground.data }, { on := 9, ground := Go.Ground.data }], guard := none }) (v := .agg (ec z.1).toArray) rfl (by kernel_rfl) (by kernel_rfl) (by kernel_rfl) (fun _ _ _ h => h) (Or.inl ⟨by rfl, fun w hS => exec_build3 (x := .tmp 19) (y := .tmp 22) (z := .tmp 25) rfl rfl rfl rfl (HBD.out w)⟩) hH ?_
          simp only [Act.put, List.setIfInBounds_toArray, List.set_cons_zero, List.set_cons_succ]
          refine wpAnyH_ready (rs := [11]) (by kernel_rfl) (by simp) ?_
          refine AllReadyH.cons (o := { dst := some 27, op := Go.Op.buildSlice 50 1 #[(0, Go.Operand.tmp 26)], type := 50, pos := "law.go:35", after := #[{ on := 10, ground := Go.Ground.data }], guard := none }) rfl (fun K hK => ?_) AllReadyH.nil
          rw [if_pos (by rfl)]
          refine wp_buildSlice_one 50 1 (.tmp 26) rfl (ecV z.1) rfl _ _ (build50s HZL.out w2) ?_
          refine hK.out _ _ (⟨S8.out.2.1.keep (more (Below.refl _ _) _)⟩) (fun hHn => ?_)
          clear hK K hH
          have hH := hHn
          clear hHn
          try simp only [Act.put, List.setIfInBounds_toArray, List.set_cons_zero, List.set_cons_succ]
          refine wpAnyH_ready (rs := [12]) (by kernel_rfl) (by simp) ?_
          refine AllReadyH.cons (o := { dst := some 28, op := Go.Op.call { callee := Go.Callee.builtin Go.Builtin.append, args := #[Go.Operand.tmp 17, Go.Operand.tmp 27], argTypes := #[50, 50] }, type := 50, pos := "law.go:35", after := #[{ on := 1, ground := Go.Ground.data }, { on := 11, ground := Go.Ground.data }, { on := 9, ground := Go.Ground.chain }], guard := none }) rfl (fun K hK => ?_) AllReadyH.nil
          refine step_append_lies _ rfl (.tmp 17) (.tmp 27) 50 rfl (A + 3) 105 i0 (.agg (ec x0).toArray) 22 88 Tryd.underlying50 hi0 hz0 hz1 hz2 rfl (by decide) (.slice av nv cv) xs.length (ecs xs) rfl (S8.out.1.es.keep (more (Below.refl _ _) _)).v ⟨w2.heap.size, 0, none⟩ 1 1 (ec z.1) rfl ?e0 ?e1 ?e2 (by decide) ?e3 ?e4 ?e5 (w2.heap.size + 1) ?e6 ?_
          case e0 => rw [ec_len HZL.out]
          case e1 => exact World.news_of_block (Blk.new w2 (.cells (ec z.1).toArray 105))
          case e2 => exact fun u hu => List.all_eq_true.1 (by simpa using ec_one z.1) u hu
          case e3 => have := HXS.out.1; have := HN.out; unfold maxLen; omega
          case e4 => have := HXS.out.1; have := HN.out; omega
          case e5 => have := S8.out.1.h.lt; simp; omega
          case e6 => simp
          intro g capN w3 ho hg hv hlt9
          have HT3 : Kp (Blk w3 T (.cells (ec x.1).toArray 115)) := ⟨(hg.block T (by have := S8.out.2.1.lt; simp; omega) (fun e => by have := HVT.out T e.symm; omega)).trans (S8.out.2.1.keep (more (Below.refl _ _) _))⟩
          have HH8 : Kp (Blk w3 (A + 2) (.cells #[.bool u, .slice av nv cv] 52)) := ⟨S8.out.1.h.upto (below_row_grown (B := A + 3) ((more (Below.refl _ _) _).mono (by have := S8.out.1.h.lt; omega)) (by have := S8.out.1.h.lt; simp; omega) (S8.out.1.es.keep (more (Below.refl _ _) _)).v hg) (by omega)⟩
          have S9 := Kp.mk (S8.out.1.app S8.out.2.2 (by decide) ho hg)
          clear ho hg hv hlt9 S8
          refine hK.out _ _ (⟨HT3.out⟩) (fun hHn => ?_)
          clear hK K hH
          have hH := hHn
          clear hHn
          try simp only [Act.put, List.setIfInBounds_toArray, List.set_cons_zero, List.set_cons_succ]
          refine wpAnyH_take (i := 13) (oi := { dst := some 29, op := Go.Op.fieldAddr 52 (Go.Operand.tmp 3) 1, type := 0, pos := "law.go:35", after := #[{ on := 0, ground := Go.Ground.phase }, { on := 1, ground := Go.Ground.phase }, { on := 2, ground := Go.Ground.phase }, { on := 3, ground := Go.Ground.phase }, { on := 4, ground := Go.Ground.phase }, { on := 5, ground := Go.Ground.phase }, { on := 6, ground := Go.Ground.phase }, { on := 7, ground := Go.Ground.phase }, { on := 8, ground := Go.Ground.phase }, { on := 9, ground := Go.Ground.phase }, { on := 10, ground := Go.Ground.phase }, { on := 11, ground := Go.Ground.phase }, { on := 12, ground := Go.Ground.phase }], guard := none }) (v := .pointer (some ⟨A + 2, 1, none⟩)) rfl (by kernel_rfl) (by kernel_rfl) (by kernel_rfl) (fun _ _ _ h => h) (Or.inl ⟨by rfl, fun w hS => by first | rfl | go_simp⟩) hH ?_
          simp only [Act.put, List.setIfInBounds_toArray, List.set_cons_zero, List.set_cons_succ]
          refine wpAnyH_ready (rs := [14]) (by kernel_rfl) (by simp) ?_
          refine AllReadyH.cons (o := { dst := none, op := Go.Op.store 50 (Go.Operand.tmp 29) (Go.Operand.tmp 28), type := 0, pos := "law.go:35", after := #[{ on := 13, ground := Go.Ground.data }, { on := 12, ground := Go.Ground.data }, { on := 12, ground := Go.Ground.chain }, { on := 0, ground := Go.Ground.phase }, { on := 1, ground := Go.Ground.phase }, { on := 2, ground := Go.Ground.phase }, { on := 3, ground := Go.Ground.phase }, { on := 4, ground := Go.Ground.phase }, { on := 5, ground := Go.Ground.phase }, { on := 6, ground := Go.Ground.phase }, { on := 7, ground := Go.Ground.phase }, { on := 8, ground := Go.Ground.phase }, { on := 9, ground := Go.Ground.phase }, { on := 10, ground := Go.Ground.phase }, { on := 11, ground := Go.Ground.phase }, { on := 12, ground := Go.Ground.phase }], guard := none }) rfl (fun K hK => ?_) AllReadyH.nil
          have q2 := HH8.out.cell 1
          have q3 := HH8.out.frozen 1
          go_simp
          clear q2 q3
          refine hK.out _ _ (⟨((Turn.same HH8.out).set 1 _).keep HT3.out (by have := HVA.out; omega)⟩) (fun hHn => ?_)
          clear hK K hH
          have hH := hHn
          clear hHn
          try simp only [Act.put, List.setIfInBounds_toArray, List.set_cons_zero, List.set_cons_succ]
          clear hH HT3 HH8
          refine wpAnyH_done (by kernel_rfl) ?_ _
          refine ex_worldU (fun W => TS w A 57 52 105 40 u n (some ⟨b, off, none⟩) c f (.slice (some ⟨g, 0, none⟩) (xs.length + 1) capN) (xs ++ [z]) W) S9.out ?_
          intro W9 hW
          have G9 := Kp.mk hW
          clear hW S9
          go_wp2_with fail
          exact ⟨⟨i + 1, _, _, _, xs ++ [z], by omega, by go_num, G9, ⟨SameRow.app HXS.out (by rw [← HX.out]; exact HZ9.out)⟩⟩, by simp [intOf]; omega⟩
        · go_simp
          refine (fromcred_any x.1.lf x.1.wa x.1.wn x.1.wc x.1.pa x.1.pn x.1.pc x.2.1 x.2.2 w1 S7.out.2.2.l S7.out.2.2.hw S7.out.2.2.hp ⟨by have := S7.out.2.2.wn; omega, by have := S7.out.2.2.pn; omega⟩).mono ?_
          rintro r w2 ⟨a4, c4, a7, c7, rfl, h4, h7, hb⟩
          obtain ⟨z, hz⟩ : ∃ z : E3, z = (⟨x.1.d, x.1.e, x.1.s, x.1.m, x.1.lf, a4, x.1.wn, c4, a7, x.1.pn, c7⟩, x.2.1, x.2.2) := ⟨_, rfl⟩
          have HZ9 : Kp (SameE x z) := ⟨by rw [hz]; exact ⟨rfl, rfl, rfl, rfl, rfl, rfl, rfl, rfl, rfl⟩⟩
          have HZL : Kp (z.1.lf.length = 16) := ⟨by rw [hz]; exact S7.out.2.2.l⟩
          have S8 : Kp (TS w A 57 52 105 40 u n (some ⟨b, off, none⟩) c f (.slice av nv cv) xs w2 ∧ Blk w2 T (.cells (ec x.1).toArray 115) ∧ EOw w2 40 (A + 3) z) := ⟨S7.out.1.more hb, S7.out.2.1.keep hb, by
            rw [hz]
            exact ⟨S7.out.2.2.l, S7.out.2.2.b, S7.out.2.2.hw.lenB.1, S7.out.2.2.hp.lenB.1, Nat.le_trans S7.out.2.2.wn (by decide), Nat.le_trans S7.out.2.2.pn (by decide), S7.out.2.2.hw.lenB.2, S7.out.2.2.hp.lenB.2, ownsRow_base h4 (by have := S7.out.1.h.lt; omega), ownsRow_base h7 (by have := S7.out.1.h.lt; omega)⟩⟩
          have HBD : Kp (∀ w, (Instr.build 105 #[(0, .int .i64 x.1.d), (1, .agg #[.int .u32 x.1.e, .int .u32 x.1.s, .int .i64 x.1.m]), (2, .agg (cc x.1.lf a4 x.1.wn c4 a7 x.1.pn c7).toArray)]).run Tryd.prog w = .ok (.agg (ec z.1).toArray) w) := ⟨fun w => by rw [hz]; exact build105q S7.out.2.2.l x.1.d x.1.e x.1.s x.1.m a4 x.1.wn c4 a7 x.1.pn c7 w⟩
          clear hb h4 h7 S7 hz
          refine hK.out _ _ (⟨S8.out.2.1⟩) (fun hHn => ?_)
          clear hK K hH
          have hH := hHn
          clear hHn
          try simp only [Act.put, List.setIfInBounds_toArray, List.set_cons_zero, List.set_cons_succ]
          refine wpAnyH_take (i := 10) (oi := { dst := some 26, op := Go.Op.build 105 #[(0, Go.Operand.tmp 19), (1, Go.Operand.tmp 22), (2, Go.Operand.tmp 25)], type := 105, pos := "law.go:35", after := #[{ on := 3, ground := Go.Ground.data }, { on := 6, ground := Go.Ground.data }, { on := 9, ground := Go.Ground.data }], guard := none }) (v := .agg (ec z.1).toArray) rfl (by kernel_rfl) (by kernel_rfl) (by kernel_rfl) (fun _ _ _ h => h) (Or.inl ⟨by rfl, fun w hS => exec_build3 (x := .tmp 19) (y := .tmp 22) (z := .tmp 25) rfl rfl rfl rfl (HBD.out w)⟩) hH ?_
          simp only [Act.put, List.setIfInBounds_toArray, List.set_cons_zero, List.set_cons_succ]
          refine wpAnyH_ready (rs := [1, 11]) (by kernel_rfl) (by simp) ?_
          refine AllReadyH.cons (o := { dst := some 17, op := Go.Op.load 50 (Go.Operand.tmp 16), type := 50, pos := "law.go:35", after := #[{ on := 0, ground := Go.Ground.data }], guard := none }) rfl (fun K hK => ?_) (AllReadyH.cons (o := { dst := some 27, op := Go.Op.buildSlice 50 1 #[(0, Go.Operand.tmp 26)], type := 50, pos := "law.go:35", after := #[{ on := 10, ground := Go.Ground.data }], guard := none }) rfl (fun K hK => ?_) AllReadyH.nil)
          · have q2 : World.cell? w2 ⟨A + 2, 1, none⟩ = some (.slice av nv cv) := S8.out.1.h.cell 1
            go_simp
            clear q2
            refine hK.out _ _ (hH) (fun hHn => ?_)
            clear hK K hH
            have hH := hHn
            clear hHn
            try simp only [Act.put, List.setIfInBounds_toArray, List.set_cons_zero, List.set_cons_succ]
            refine wpAnyH_ready (rs := [11]) (by kernel_rfl) (by simp) ?_
            refine AllReadyH.cons (o := { dst := some 27, op := Go.Op.buildSlice 50 1 #[(0, Go.Operand.tmp 26)], type := 50, pos := "law.go:35", after := #[{ on := 10, ground := Go.Ground.data }], guard := none }) rfl (fun K hK => ?_) AllReadyH.nil
            rw [if_pos (by rfl)]
            refine wp_buildSlice_one 50 1 (.tmp 26) rfl (ecV z.1) rfl _ _ (build50s HZL.out w2) ?_
            refine hK.out _ _ (⟨S8.out.2.1.keep (more (Below.refl _ _) _)⟩) (fun hHn => ?_)
            clear hK K hH
            have hH := hHn
            clear hHn
            try simp only [Act.put, List.setIfInBounds_toArray, List.set_cons_zero, List.set_cons_succ]
            refine wpAnyH_ready (rs := [12]) (by kernel_rfl) (by simp) ?_
            refine AllReadyH.cons (o := { dst := some 28, op := Go.Op.call { callee := Go.Callee.builtin Go.Builtin.append, args := #[Go.Operand.tmp 17, Go.Operand.tmp 27], argTypes := #[50, 50] }, type := 50, pos := "law.go:35", after := #[{ on := 1, ground := Go.Ground.data }, { on := 11, ground := Go.Ground.data }, { on := 9, ground := Go.Ground.chain }], guard := none }) rfl (fun K hK => ?_) AllReadyH.nil
            refine step_append_lies _ rfl (.tmp 17) (.tmp 27) 50 rfl (A + 3) 105 i0 (.agg (ec x0).toArray) 22 88 Tryd.underlying50 hi0 hz0 hz1 hz2 rfl (by decide) (.slice av nv cv) xs.length (ecs xs) rfl (S8.out.1.es.keep (more (Below.refl _ _) _)).v ⟨w2.heap.size, 0, none⟩ 1 1 (ec z.1) rfl ?e0 ?e1 ?e2 (by decide) ?e3 ?e4 ?e5 (w2.heap.size + 1) ?e6 ?_
            case e0 => rw [ec_len HZL.out]
            case e1 => exact World.news_of_block (Blk.new w2 (.cells (ec z.1).toArray 105))
            case e2 => exact fun u hu => List.all_eq_true.1 (by simpa using ec_one z.1) u hu
            case e3 => have := HXS.out.1; have := HN.out; unfold maxLen; omega
            case e4 => have := HXS.out.1; have := HN.out; omega
            case e5 => have := S8.out.1.h.lt; simp; omega
            case e6 => simp
            intro g capN w3 ho hg hv hlt9
            have HT3 : Kp (Blk w3 T (.cells (ec x.1).toArray 115)) := ⟨(hg.block T (by have := S8.out.2.1.lt; simp; omega) (fun e => by have := HVT.out T e.symm; omega)).trans (S8.out.2.1.keep (more (Below.refl _ _) _))⟩
            have HH8 : Kp (Blk w3 (A + 2) (.cells #[.bool u, .slice av nv cv] 52)) := ⟨S8.out.1.h.upto (below_row_grown (B := A + 3) ((more (Below.refl _ _) _).mono (by have := S8.out.1.h.lt; omega)) (by have := S8.out.1.h.lt; simp; omega) (S8.out.1.es.keep (more (Below.refl _ _) _)).v hg) (by omega)⟩
            have S9 := Kp.mk (S8.out.1.app S8.out.2.2 (by decide) ho hg)
            clear ho hg hv hlt9 S8
            refine hK.out _ _ (⟨HT3.out⟩) (fun hHn => ?_)
            clear hK K hH
            have hH := hHn
            clear hHn
            try simp only [Act.put, List.setIfInBounds_toArray, List.set_cons_zero, List.set_cons_succ]
            refine wpAnyH_take (i := 13) (oi := { dst := some 29, op := Go.Op.fieldAddr 52 (Go.Operand.tmp 3) 1, type := 0, pos := "law.go:35", after := #[{ on := 0, ground := Go.Ground.phase }, { on := 1, ground := Go.Ground.phase }, { on := 2, ground := Go.Ground.phase }, { on := 3, ground := Go.Ground.phase }, { on := 4, ground := Go.Ground.phase }, { on := 5, ground := Go.Ground.phase }, { on := 6, ground := Go.Ground.phase }, { on := 7, ground := Go.Ground.phase }, { on := 8, ground := Go.Ground.phase }, { on := 9, ground := Go.Ground.phase }, { on := 10, ground := Go.Ground.phase }, { on := 11, ground := Go.Ground.phase }, { on := 12, ground := Go.Ground.phase }], guard := none }) (v := .pointer (some ⟨A + 2, 1, none⟩)) rfl (by kernel_rfl) (by kernel_rfl) (by kernel_rfl) (fun _ _ _ h => h) (Or.inl ⟨by rfl, fun w hS => by first | rfl | go_simp⟩) hH ?_
            simp only [Act.put, List.setIfInBounds_toArray, List.set_cons_zero, List.set_cons_succ]
            refine wpAnyH_ready (rs := [14]) (by kernel_rfl) (by simp) ?_
            refine AllReadyH.cons (o := { dst := none, op := Go.Op.store 50 (Go.Operand.tmp 29) (Go.Operand.tmp 28), type := 0, pos := "law.go:35", after := #[{ on := 13, ground := Go.Ground.data }, { on := 12, ground := Go.Ground.data }, { on := 12, ground := Go.Ground.chain }, { on := 0, ground := Go.Ground.phase }, { on := 1, ground := Go.Ground.phase }, { on := 2, ground := Go.Ground.phase }, { on := 3, ground := Go.Ground.phase }, { on := 4, ground := Go.Ground.phase }, { on := 5, ground := Go.Ground.phase }, { on := 6, ground := Go.Ground.phase }, { on := 7, ground := Go.Ground.phase }, { on := 8, ground := Go.Ground.phase }, { on := 9, ground := Go.Ground.phase }, { on := 10, ground := Go.Ground.phase }, { on := 11, ground := Go.Ground.phase }, { on := 12, ground := Go.Ground.phase }], guard := none }) rfl (fun K hK => ?_) AllReadyH.nil
            have q2 := HH8.out.cell 1
            have q3 := HH8.out.frozen 1
            go_simp
            clear q2 q3
            refine hK.out _ _ (⟨((Turn.same HH8.out).set 1 _).keep HT3.out (by have := HVA.out; omega)⟩) (fun hHn => ?_)
            clear hK K hH
            have hH := hHn
            clear hHn
            try simp only [Act.put, List.setIfInBounds_toArray, List.set_cons_zero, List.set_cons_succ]
            clear hH HT3 HH8
            refine wpAnyH_done (by kernel_rfl) ?_ _
            refine ex_worldU (fun W => TS w A 57 52 105 40 u n (some ⟨b, off, none⟩) c f (.slice (some ⟨g, 0, none⟩) (xs.length + 1) capN) (xs ++ [z]) W) S9.out ?_
            intro W9 hW
            have G9 := Kp.mk hW
            clear hW S9
            go_wp2_with fail
            exact ⟨⟨i + 1, _, _, _, xs ++ [z], by omega, by go_num, G9, ⟨SameRow.app HXS.out (by rw [← HX.out]; exact HZ9.out)⟩⟩, by simp [intOf]; omega⟩
          · rw [if_pos (by rfl)]
            refine wp_buildSlice_one 50 1 (.tmp 26) rfl (ecV z.1) rfl _ _ (build50s HZL.out w2) ?_
            refine hK.out _ _ (⟨S8.out.2.1.keep (more (Below.refl _ _) _)⟩) (fun hHn => ?_)
            clear hK K hH
            have hH := hHn
            clear hHn
            try simp only [Act.put, List.setIfInBounds_toArray, List.set_cons_zero, List.set_cons_succ]
            refine wpAnyH_ready (rs := [1]) (by kernel_rfl) (by simp) ?_
            refine AllReadyH.cons (o := { dst := some 17, op := Go.Op.load 50 (Go.Operand.tmp 16), type := 50, pos := "law.go:35", after := #[{ on := 0, ground := Go.Ground.data }], guard := none }) rfl (fun K hK => ?_) AllReadyH.nil
            have q2 : World.cell? (w2.alloc (.cells (ec z.1).toArray 105)) ⟨A + 2, 1, none⟩ = some (.slice av nv cv) := (S8.out.1.more (more (Below.refl _ _) _)).h.cell 1
            go_simp
            clear q2
            refine hK.out _ _ (hH) (fun hHn => ?_)
            clear hK K hH
            have hH := hHn
            clear hHn
            try simp only [Act.put, List.setIfInBounds_toArray, List.set_cons_zero, List.set_cons_succ]
            refine wpAnyH_ready (rs := [12]) (by kernel_rfl) (by simp) ?_
            refine AllReadyH.cons (o := { dst := some 28, op := Go.Op.call { callee := Go.Callee.builtin Go.Builtin.append, args := #[Go.Operand.tmp 17, Go.Operand.tmp 27], argTypes := #[50, 50] }, type := 50, pos := "law.go:35", after := #[{ on := 1, ground := Go.Ground.data }, { on := 11, ground := Go.Ground.data }, { on := 9, ground := Go.Ground.chain }], guard := none }) rfl (fun K hK => ?_) AllReadyH.nil
            refine step_append_lies _ rfl (.tmp 17) (.tmp 27) 50 rfl (A + 3) 105 i0 (.agg (ec x0).toArray) 22 88 Tryd.underlying50 hi0 hz0 hz1 hz2 rfl (by decide) (.slice av nv cv) xs.length (ecs xs) rfl (S8.out.1.es.keep (more (Below.refl _ _) _)).v ⟨w2.heap.size, 0, none⟩ 1 1 (ec z.1) rfl ?e0 ?e1 ?e2 (by decide) ?e3 ?e4 ?e5 (w2.heap.size + 1) ?e6 ?_
            case e0 => rw [ec_len HZL.out]
            case e1 => exact World.news_of_block (Blk.new w2 (.cells (ec z.1).toArray 105))
            case e2 => exact fun u hu => List.all_eq_true.1 (by simpa using ec_one z.1) u hu
            case e3 => have := HXS.out.1; have := HN.out; unfold maxLen; omega
            case e4 => have := HXS.out.1; have := HN.out; omega
            case e5 => have := S8.out.1.h.lt; simp; omega
            case e6 => simp
            intro g capN w3 ho hg hv hlt9
            have HT3 : Kp (Blk w3 T (.cells (ec x.1).toArray 115)) := ⟨(hg.block T (by have := S8.out.2.1.lt; simp; omega) (fun e => by have := HVT.out T e.symm; omega)).trans (S8.out.2.1.keep (more (Below.refl _ _) _))⟩
            have HH8 : Kp (Blk w3 (A + 2) (.cells #[.bool u, .slice av nv cv] 52)) := ⟨S8.out.1.h.upto (below_row_grown (B := A + 3) ((more (Below.refl _ _) _).mono (by have := S8.out.1.h.lt; omega)) (by have := S8.out.1.h.lt; simp; omega) (S8.out.1.es.keep (more (Below.refl _ _) _)).v hg) (by omega)⟩
            have S9 := Kp.mk (S8.out.1.app S8.out.2.2 (by decide) ho hg)
            clear ho hg hv hlt9 S8
            refine hK.out _ _ (⟨HT3.out⟩) (fun hHn => ?_)
            clear hK K hH
            have hH := hHn
            clear hHn
            try simp only [Act.put, List.setIfInBounds_toArray, List.set_cons_zero, List.set_cons_succ]
            refine wpAnyH_take (i := 13) (oi := { dst := some 29, op := Go.Op.fieldAddr 52 (Go.Operand.tmp 3) 1, type := 0, pos := "law.go:35", after := #[{ on := 0, ground := Go.Ground.phase }, { on := 1, ground := Go.Ground.phase }, { on := 2, ground := Go.Ground.phase }, { on := 3, ground := Go.Ground.phase }, { on := 4, ground := Go.Ground.phase }, { on := 5, ground := Go.Ground.phase }, { on := 6, ground := Go.Ground.phase }, { on := 7, ground := Go.Ground.phase }, { on := 8, ground := Go.Ground.phase }, { on := 9, ground := Go.Ground.phase }, { on := 10, ground := Go.Ground.phase }, { on := 11, ground := Go.Ground.phase }, { on := 12, ground := Go.Ground.phase }], guard := none }) (v := .pointer (some ⟨A + 2, 1, none⟩)) rfl (by kernel_rfl) (by kernel_rfl) (by kernel_rfl) (fun _ _ _ h => h) (Or.inl ⟨by rfl, fun w hS => by first | rfl | go_simp⟩) hH ?_
            simp only [Act.put, List.setIfInBounds_toArray, List.set_cons_zero, List.set_cons_succ]
            refine wpAnyH_ready (rs := [14]) (by kernel_rfl) (by simp) ?_
            refine AllReadyH.cons (o := { dst := none, op := Go.Op.store 50 (Go.Operand.tmp 29) (Go.Operand.tmp 28), type := 0, pos := "law.go:35", after := #[{ on := 13, ground := Go.Ground.data }, { on := 12, ground := Go.Ground.data }, { on := 12, ground := Go.Ground.chain }, { on := 0, ground := Go.Ground.phase }, { on := 1, ground := Go.Ground.phase }, { on := 2, ground := Go.Ground.phase }, { on := 3, ground := Go.Ground.phase }, { on := 4, ground := Go.Ground.phase }, { on := 5, ground := Go.Ground.phase }, { on := 6, ground := Go.Ground.phase }, { on := 7, ground := Go.Ground.phase }, { on := 8, ground := Go.Ground.phase }, { on := 9, ground := Go.Ground.phase }, { on := 10, ground := Go.Ground.phase }, { on := 11, ground := Go.Ground.phase }, { on := 12, ground := Go.Ground.phase }], guard := none }) rfl (fun K hK => ?_) AllReadyH.nil
            have q2 := HH8.out.cell 1
            have q3 := HH8.out.frozen 1
            go_simp
            clear q2 q3
            refine hK.out _ _ (⟨((Turn.same HH8.out).set 1 _).keep HT3.out (by have := HVA.out; omega)⟩) (fun hHn => ?_)
            clear hK K hH
            have hH := hHn
            clear hHn
            try simp only [Act.put, List.setIfInBounds_toArray, List.set_cons_zero, List.set_cons_succ]
            clear hH HT3 HH8
            refine wpAnyH_done (by kernel_rfl) ?_ _
            refine ex_worldU (fun W => TS w A 57 52 105 40 u n (some ⟨b, off, none⟩) c f (.slice (some ⟨g, 0, none⟩) (xs.length + 1) capN) (xs ++ [z]) W) S9.out ?_
            intro W9 hW
            have G9 := Kp.mk hW
            clear hW S9
            go_wp2_with fail
            exact ⟨⟨i + 1, _, _, _, xs ++ [z], by omega, by go_num, G9, ⟨SameRow.app HXS.out (by rw [← HX.out]; exact HZ9.out)⟩⟩, by simp [intOf]; omega⟩
    · obtain rfl : i = n := by omega
      obtain rfl : nv = i := (ownsRow_len HS.out.es.v).trans HXS.out.1
      have hcl : ¬ ((nv : Int) < nv) := by omega
      go_wp2_with (first
        | (refine wpList_load_row rfl 52 (.tmp 3) rfl (A + 2) rfl 52 #[.bool u, .slice av nv cv] (0, 0) _ HS.out.h Tryd.underlying52 rfl info52t ?_)
        | (refine wpList_store_row rfl 52 (.tmp 2) (.tmp 31) rfl (A + 1) #[.bool u, .slice av nv cv] rfl rfl 52 _ HS.out.r info52t rfl (u_one _ _ _ _) ?_; refine wpl_world (fun W => Blk W (A + 1) (.cells #[.bool u, .slice av nv cv] 52) ∧ EOs W 105 40 (A + 3) (.slice av nv cv) xs ∧ Below A w W) ⟨(Turn.ofRow HS.out.r _).blk, HS.out.es.turn (Turn.ofRow HS.out.r _) (by omega), HS.out.below.trans ((Turn.ofRow HS.out.r _).below (by omega) (by have := HS.out.r.lt; omega))⟩ ?_; rintro W6 h6; have S6 := Kp.mk h6; clear h6))
      have hlen := HXS.out.1
      exact bodyPost_ret (results_row rfl _ _ (A + 1) 52 #[.bool u, .slice av nv cv] (0, 0) _ rfl S6.out.1 Tryd.underlying52 rfl info52t) rfl ⟨av, cv, xs, rfl, EOs.base S6.out.2.1 (by have := HAe.out; omega), HXS.out.1, HXS.out.2, by rw [← HAe.out]; exact S6.out.2.2⟩
end Go.Proofs.YtgabjmmmiogfjaaDoor
