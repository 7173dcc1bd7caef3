/-
  slate.Write.
-/
import Derived.Test.YtgikedbnnlckjaaSlC
namespace Go.Proofs.Ytgikedbnnlckjaa
open Go.RowKit

theorem drew_alloc_size (w : World) (o : Obj) : (w.drew.alloc o).heap.size = w.heap.size + 1 := by
  have : (w.drew.alloc o).heap.size = w.drew.heap.size + 1 := by simp
  exact this
theorem stepS_q (s : SlS) : (stepS s).q = s.q ∧ (stepS s).ls = s.ls ∧ (stepS s).n = s.n := by
  unfold stepS
  split <;> exact ⟨rfl, rfl, rfl⟩
theorem hasE_zero {s : SlS} {a : Int} (h : hasE s a = 0) : s.dn = false ∧ 0 ≤ a ∧ a < s.n := by
  unfold hasE at h
  split at h
  · cases h
  · split at h
    · rename_i h1 h2; exact ⟨by simpa using h1, h2⟩
    · cases h
/-- Behind append to the writes' row, and the store of what it gave. -/
theorem SlStep.app {g k g' cap : Nat} {v : Value} {s : SlS} {z : List Int} {w w3 : World} {o : Obj} (h : SlIs w g v s) (hz : z.length = 64) (hzb : Bytes z) (hk : k < s.n)
    (h1 : w3.ownsRow (g + 2) 82 65 (.slice (some ⟨g', 0, none⟩) (s.q.length + 1) cap) (s.q.length + 1) (qcells s.q ++ wcells (k, z))) (h2 : (w.drew.alloc o).grownBy w3 v.ownBlock) (h3 : v.ownBlock = some g' ∨ g' = w.heap.size + 1)
    (h4 : Blk w3 (g + 1) (slObj g v s)) (h5 : Row w3 g 35 .u8 s.ls) :
    SlStep g v (.slice (some ⟨g', 0, none⟩) (s.q.length + 1) cap) { s with q := s.q ++ [(k, z)] } w (w3.setCell ⟨g + 1, 1, none⟩ (.slice (some ⟨g', 0, none⟩) (s.q.length + 1) cap)) := by
  have hT : Turn (g + 1) (.cells #[.slice (some ⟨g, 0, none⟩) s.n s.n, .slice (some ⟨g', 0, none⟩) (s.q.length + 1) cap, .int .i64 s.st, .int .i64 s.fu, .bool s.dn] 72) w3 (w3.setCell ⟨g + 1, 1, none⟩ (.slice (some ⟨g', 0, none⟩) (s.q.length + 1) cap)) := ((Turn.same h4).set 1 _).as rfl
  refine ⟨h2.os, h2.tape, h2.output, ?_, ⟨hT.blk, hT.keep h5 (by omega), ?_, ⟨h.k.n1, h.k.ll, h.k.lb, fun x hx => ?_, h.k.sr, h.k.fr⟩⟩, fun j hj n1 n2 n3 => ?_, ?_⟩
  · have := h2.size; rw [drew_alloc_size] at this; simp [World.setCell]; omega
  · have := ownsRow_turn h1 hT (by omega)
    simpa [qcells_add] using this
  · rcases List.mem_append.1 hx with hx | hx
    · exact h.k.qq x hx
    · rw [List.mem_singleton.1 hx]; exact ⟨hk, hz, hzb⟩
  · refine (hT.other j (by have := h2.size; rw [drew_alloc_size] at this; omega) n2).trans ((h2.block j (by rw [drew_alloc_size]; omega) (fun e => n3 e.symm)).trans ?_)
    exact (Below.refl w.heap.size w).alloc (Nat.le_refl _) o |>.block j hj
  · rcases h3 with h3 | h3
    · exact .inl h3.symm
    · refine .inr fun j hj => ?_
      simp [Value.ownBlock] at hj
      omega
set_option maxRecDepth 100000 in
set_option maxHeartbeats 2000000 in
theorem write_any (g : Nat) (v : Value) (s : SlS) (a : Int) (z : List Int) (w : World) (h : SlIs w g v s) (hz : z.length = 64) (hzb : Bytes z) (hst : s.st + 1 ≤ 1000000) (hq : s.q.length ≤ 1000000) :
    Calls Try.prog 16 #[slP g, .int .i64 a, sec z] w fun r w' => ∃ v', r = .returned (.int .i64 (writeE s a)) ∧ SlStep g v v' (writeS s a z) w w' := by
  have H := Kp.mk h
  have HZl := Kp.mk hz
  have HZb := Kp.mk hzb
  have HST := Kp.mk hst
  have hC := fun (w : World) => box_row (t := 35) (cs := kv .u8 z) (cells35 hz) w
  obtain ⟨i0, hi, hz0, hz1, hz2⟩ := info_parts info82
  obtain ⟨e, he⟩ : ∃ e, e = hasE s a := ⟨_, rfl⟩
  have HE := Kp.mk he
  clear h hz hzb hst
  by_cases h0 : e = 0
  · obtain ⟨hd, ha0, ha1⟩ := hasE_zero (s := s) (a := a) (by rw [← he]; exact h0)
    obtain ⟨k, rfl⟩ : ∃ k : Nat, a = k := ⟨a.toNat, by omega⟩
    have HKn : Kp (k < s.n) := ⟨by omega⟩
    have HW : Kp (writeE s k = stepE s ∧ ∀ z, writeS s k z = if stepE s = 0 then { stepS s with q := s.q ++ [(k, z)] } else stepS s) := ⟨by
      have e1 : hasE s k = 0 := by rw [← he]; exact h0
      exact ⟨by unfold writeE; rw [if_pos e1], fun z => by unfold writeS; rw [if_pos e1]; simp⟩⟩
    have he0 : (e != 0) = false := by simp [h0]
    clear hd ha0 ha1 he h0
    go_enter Try.func16, Try.ntmps16
    go_wp2_with (refine wpList_box_eq rfl 35 (.tmp 2) rfl _ rfl _ _ (hC _) ?_)
    clear hC
    refine (has_any g v s k _ (H.out.alloc _)).mono ?_
    rintro r w1 ⟨rfl, rfl⟩
    rw [← HE.out]
    obtain ⟨B, hB⟩ : ∃ B, B = w.heap.size := ⟨_, rfl⟩
    rw [← hB]
    have HBe := Kp.mk hB
    have F1 := Kp.mk (H.out.alloc (.cells (kv .u8 z).toArray 35))
    have F2 : Kp (Row (w.alloc (.cells (kv .u8 z).toArray 35)) B 35 .u8 z) := ⟨Blk.newAt _ hB⟩
    have F3 : Kp (Below w.heap.size w (w.alloc (.cells (kv .u8 z).toArray 35))) := ⟨more (Below.refl _ _) _⟩
    have hBG : g + 1 < B := by rw [hB]; exact H.out.lt
    have HBV : Kp (v.ownBlock ≠ some B) := ⟨fun e => by have := (H.out.o.lt B e).2; omega⟩
    clear hB
    generalize w.alloc (.cells (kv .u8 z).toArray 35) = W at F1 F2 F3 ⊢
    go_wp2_with fail
    refine (step_any g v s W F1.out HST.out).mono ?_
    rintro r w2 ⟨rfl, h2⟩
    have HS2 := Kp.mk (SlStep.trans (SlStep.same H.out F3.out) h2)
    have HR2 : Kp (Row w2 B 35 .u8 z) := ⟨(h2.other B F2.out.lt (by omega) (by omega) HBV.out).trans F2.out⟩
    clear h2 he0
    by_cases hs0 : stepE s = 0
    · have HWS : Kp (writeE s k = 0 ∧ writeS s k z = { stepS s with q := s.q ++ [(k, z)] }) := ⟨by rw [HW.out.1, HW.out.2, if_pos hs0]; exact ⟨hs0, rfl⟩⟩
      rw [hs0]
      clear hs0
      have HQ : Kp ((stepS s).q.length ≤ 1000000) := ⟨by rw [(stepS_q s).1]; exact hq⟩
      have HKn1 : Kp (k < (stepS s).n) := ⟨by rw [(stepS_q s).2.2]; exact HKn.out⟩
      have HWQ : Kp ({ stepS s with q := s.q ++ [(k, z)] } = { stepS s with q := (stepS s).q ++ [(k, z)] }) := ⟨by rw [(stepS_q s).1]⟩
      have HWT : Kp (writeS s k z = { stepS s with q := (stepS s).q ++ [(k, z)] }) := ⟨by rw [HWS.out.2, HWQ.out]⟩
      have HWE : Kp (writeE s k = 0) := ⟨HWS.out.1⟩
      clear HWS HWQ HW hq
      generalize stepS s = s1 at *
      go_wp2_with fail
      have G1 := Kp.mk HS2.out.is
      have G2 := HR2
      have HBG : Kp (g + 1 < B) := ⟨hBG⟩
      generalize hwr : w2 = wr at *
      clear hwr
      refine wp_region_any (by kernel_rfl) ?_
      change wpAny _ _ _ _ _ _ _ (World.drew _)
      refine wpAny_take (i := 0) (oi := { dst := some 20, op := Go.Op.move (Go.Operand.tmp 0), type := 23, pos := "slate.go:54", after := #[], guard := none }) (v := slP g) rfl (by kernel_rfl) (by kernel_rfl) (by kernel_rfl) (fun _ _ _ h => h) (Or.inl ⟨by rfl, fun w => by go_simp⟩) ?_
      simp only [Act.put, List.setIfInBounds_toArray, List.set_cons_zero, List.set_cons_succ]
      refine wpAny_take (i := 1) (oi := { dst := some 21, op := Go.Op.move (Go.Operand.tmp 0), type := 23, pos := "slate.go:54", after := #[], guard := none }) (v := slP g) rfl (by kernel_rfl) (by kernel_rfl) (by kernel_rfl) (fun _ _ _ h => h) (Or.inl ⟨by rfl, fun w => by go_simp⟩) ?_
      simp only [Act.put, List.setIfInBounds_toArray, List.set_cons_zero, List.set_cons_succ]
      refine wpAny_take (i := 2) (oi := { dst := some 22, op := Go.Op.nilCheck (Go.Operand.tmp 21), type := 0, pos := "slate.go:54", after := #[{ on := 1, ground := Go.Ground.data }], guard := none }) (v := slP g) rfl (by kernel_rfl) (by kernel_rfl) (by kernel_rfl) (fun _ _ _ h => h) (Or.inl ⟨by rfl, fun w => by go_simp⟩) ?_
      simp only [Act.put, List.setIfInBounds_toArray, List.set_cons_zero, List.set_cons_succ]
      refine wpAny_take (i := 3) (oi := { dst := some 23, op := Go.Op.fieldAddr 72 (Go.Operand.tmp 22) 1, type := 0, pos := "slate.go:54", after := #[{ on := 2, ground := Go.Ground.data }], guard := none }) (v := .pointer (some ⟨g + 1, 1, none⟩)) rfl (by kernel_rfl) (by kernel_rfl) (by kernel_rfl) (fun _ _ _ h => h) (Or.inl ⟨by rfl, fun w => by go_simp⟩) ?_
      simp only [Act.put, List.setIfInBounds_toArray, List.set_cons_zero, List.set_cons_succ]
      refine wpAny_take (i := 5) (oi := { dst := some 25, op := Go.Op.move (Go.Operand.tmp 1), type := 3, pos := "slate.go:54", after := #[], guard := none }) (v := .int .i64 (k : Nat)) rfl (by kernel_rfl) (by kernel_rfl) (by kernel_rfl) (fun _ _ _ h => h) (Or.inl ⟨by rfl, fun w => by go_simp⟩) ?_
      simp only [Act.put, List.setIfInBounds_toArray, List.set_cons_zero, List.set_cons_succ]
      have HC1 := Kp.mk (G1.out.drew).cells.1.2.1
      refine wpAny_ready (rs := [4, 6]) (by kernel_rfl) (by simp) ?_
      refine AllReady.cons (o := { dst := some 24, op := Go.Op.load 70 (Go.Operand.tmp 23), type := 70, pos := "slate.go:54", after := #[{ on := 3, ground := Go.Ground.data }], guard := none }) rfl (fun K hK => ?_) (AllReady.cons (o := { dst := some 26, op := Go.Op.load 35 (Go.Operand.tmp 5), type := 35, pos := "slate.go:54", after := #[], guard := none }) rfl (fun K hK => ?_) AllReady.nil)
      · have hc1 := HC1.out
        have hc2 := G1.out.cells.1.2.1
        have hl1 := (G1.out.drew).lt
        have hl2 := G1.out.lt
        go_simp
        clear hc1 hc2 hl1 hl2
        refine hK _ _ ?_
        clear hK K
        try simp only [Act.put, List.setIfInBounds_toArray, List.set_cons_zero, List.set_cons_succ]
        refine wpAny_ready (rs := [6]) (by kernel_rfl) (by simp) ?_
        refine AllReady.cons (o := { dst := some 26, op := Go.Op.load 35 (Go.Operand.tmp 5), type := 35, pos := "slate.go:54", after := #[], guard := none }) rfl (fun K hK => ?_) AllReady.nil
        rw [if_pos (by rfl)]
        refine wp_load_row 35 (.tmp 5) rfl B rfl 35 _ (0, 0) _ (G2.out.drew) Try.underlying35 rfl (cells35 HZl.out) ?_
        refine hK _ _ ?_
        clear hK K
        try simp only [Act.put, List.setIfInBounds_toArray, List.set_cons_zero, List.set_cons_succ]
        refine wpAny_take (i := 7) (oi := { dst := some 27, op := Go.Op.build 82 #[(0, Go.Operand.tmp 25), (1, Go.Operand.tmp 26)], type := 82, pos := "slate.go:54", after := #[{ on := 5, ground := Go.Ground.data }, { on := 6, ground := Go.Ground.data }], guard := none }) (v := .agg (wcells (k, z)).toArray) rfl (by kernel_rfl) (by kernel_rfl) (by kernel_rfl) (fun _ _ _ h => h) (Or.inl ⟨by rfl, fun w => exec_build82 HZl.out rfl rfl rfl⟩) ?_
        simp only [Act.put, List.setIfInBounds_toArray, List.set_cons_zero, List.set_cons_succ]
        refine wpAny_ready (rs := [8]) (by kernel_rfl) (by simp) ?_
        refine AllReady.cons (o := { dst := some 28, op := Go.Op.buildSlice 70 1 #[(0, Go.Operand.tmp 27)], type := 70, pos := "slate.go:54", after := #[{ on := 7, ground := Go.Ground.data }], guard := none }) rfl (fun K hK => ?_) AllReady.nil
        rw [if_pos (by rfl)]
        refine wp_buildSlice_one 70 1 (.tmp 27) rfl (.agg (wcells (k, z)).toArray) rfl _ _ (build70 HZl.out wr.drew) ?_
        refine hK _ _ ?_
        clear hK K
        try simp only [Act.put, List.setIfInBounds_toArray, List.set_cons_zero, List.set_cons_succ]
        refine wpAny_ready (rs := [9]) (by kernel_rfl) (by simp) ?_
        refine AllReady.cons (o := { dst := some 29, op := Go.Op.call { callee := Go.Callee.builtin Go.Builtin.append, args := #[Go.Operand.tmp 24, Go.Operand.tmp 28], argTypes := #[70, 70] }, type := 70, pos := "slate.go:54", after := #[{ on := 4, ground := Go.Ground.data }, { on := 8, ground := Go.Ground.data }], guard := none }) rfl (fun K hK => ?_) AllReady.nil
        refine step_append_lies _ rfl (.tmp 24) (.tmp 28) 70 rfl (g + 2) 82 i0 (.agg (List.replicate 65 (.int .u8 0) |>.set 0 (.int .i64 0)).toArray) 65 72 Try.underlying70 hi hz0 hz1 hz2 rfl (by decide) v s1.q.length (qcells s1.q) rfl ((G1.out.drew).alloc _).o ⟨wr.drew.heap.size, 0, none⟩ 1 1 (wcells (k, z)) rfl ?d9 ?d0 ?d1 (by decide) ?d3 ?d4 ?d5 (wr.heap.size + 1) ?d6 ?_
        case d9 => rw [wcells_len HZl.out]
        case d0 => exact World.news_of_block (Blk.new wr.drew (.cells (wcells (k, z)).toArray 82))
        case d1 => exact wcells_one (k, z)
        case d3 => have := HQ.out; unfold maxLen; omega
        case d4 => have := HQ.out; omega
        case d5 => have := G1.out.lt; rw [drew_alloc_size]; omega
        case d6 => exact drew_alloc_size _ _
        intro g' cap2 w3 ho hg hv hlt
        have H1 := Kp.mk ho
        have H2 : Kp ((wr.drew.alloc (.cells (wcells (k, z)).toArray 82)).grownBy w3 v.ownBlock) := ⟨hg⟩
        have H3 : Kp (v.ownBlock = some g' ∨ g' = wr.heap.size + 1) := ⟨hv⟩
        have HVB : Kp (∀ j, v.ownBlock = some j → g + 2 ≤ j) := ⟨fun j e => (G1.out.o.lt j e).1⟩
        have H4 : Kp (Blk w3 (g + 1) (slObj g v s1)) := ⟨(hg.block (g + 1) (by have := G1.out.lt; rw [drew_alloc_size]; omega) (fun e => by have := HVB.out _ e.symm; omega)).trans (((G1.out.drew).alloc _).b)⟩
        have H5 : Kp (Row w3 g 35 .u8 s1.ls) := ⟨(hg.block g (by have := G1.out.lt; rw [drew_alloc_size]; omega) (fun e => by have := HVB.out _ e.symm; omega)).trans (((G1.out.drew).alloc _).r)⟩
        clear ho hg hv hlt
        refine hK _ _ ?_
        clear hK K
        try simp only [Act.put, List.setIfInBounds_toArray, List.set_cons_zero, List.set_cons_succ]
        refine wpAny_take (i := 10) (oi := { dst := some 30, op := Go.Op.nilCheck (Go.Operand.tmp 20), type := 0, pos := "slate.go:54", after := #[{ on := 0, ground := Go.Ground.data }, { on := 0, ground := Go.Ground.phase }, { on := 1, ground := Go.Ground.phase }, { on := 2, ground := Go.Ground.phase }, { on := 3, ground := Go.Ground.phase }, { on := 4, ground := Go.Ground.phase }, { on := 5, ground := Go.Ground.phase }, { on := 6, ground := Go.Ground.phase }, { on := 7, ground := Go.Ground.phase }, { on := 8, ground := Go.Ground.phase }, { on := 9, ground := Go.Ground.phase }], guard := none }) (v := slP g) rfl (by kernel_rfl) (by kernel_rfl) (by kernel_rfl) (fun _ _ _ h => h) (Or.inl ⟨by rfl, fun w => by go_simp⟩) ?_
        simp only [Act.put, List.setIfInBounds_toArray, List.set_cons_zero, List.set_cons_succ]
        refine wpAny_take (i := 11) (oi := { dst := some 31, op := Go.Op.fieldAddr 72 (Go.Operand.tmp 30) 1, type := 0, pos := "slate.go:54", after := #[{ on := 10, ground := Go.Ground.data }, { on := 0, ground := Go.Ground.phase }, { on := 1, ground := Go.Ground.phase }, { on := 2, ground := Go.Ground.phase }, { on := 3, ground := Go.Ground.phase }, { on := 4, ground := Go.Ground.phase }, { on := 5, ground := Go.Ground.phase }, { on := 6, ground := Go.Ground.phase }, { on := 7, ground := Go.Ground.phase }, { on := 8, ground := Go.Ground.phase }, { on := 9, ground := Go.Ground.phase }], guard := none }) (v := .pointer (some ⟨g + 1, 1, none⟩)) rfl (by kernel_rfl) (by kernel_rfl) (by kernel_rfl) (fun _ _ _ h => h) (Or.inl ⟨by rfl, fun w => by go_simp⟩) ?_
        simp only [Act.put, List.setIfInBounds_toArray, List.set_cons_zero, List.set_cons_succ]
        refine wpAny_ready (rs := [12]) (by kernel_rfl) (by simp) ?_
        refine AllReady.cons (o := { dst := none, op := Go.Op.store 70 (Go.Operand.tmp 31) (Go.Operand.tmp 29), type := 0, pos := "slate.go:54", after := #[{ on := 11, ground := Go.Ground.data }, { on := 9, ground := Go.Ground.data }, { on := 9, ground := Go.Ground.chain }, { on := 0, ground := Go.Ground.phase }, { on := 1, ground := Go.Ground.phase }, { on := 2, ground := Go.Ground.phase }, { on := 3, ground := Go.Ground.phase }, { on := 4, ground := Go.Ground.phase }, { on := 5, ground := Go.Ground.phase }, { on := 6, ground := Go.Ground.phase }, { on := 7, ground := Go.Ground.phase }, { on := 8, ground := Go.Ground.phase }, { on := 9, ground := Go.Ground.phase }], guard := none }) rfl (fun K hK => ?_) AllReady.nil
        have hc1 := H4.out.cell 1
        have hf1 := Blk.frozen H4.out 1
        go_simp
        clear hc1 hf1
        refine hK _ _ ?_
        clear hK K
        try simp only [Act.put, List.setIfInBounds_toArray, List.set_cons_zero, List.set_cons_succ]
        refine wpAny_done (by kernel_rfl) ?_ _
        have HFS := Kp.mk (SlStep.trans HS2.out (SlStep.app G1.out HZl.out HZb.out HKn1.out H1.out H2.out H3.out H4.out H5.out))
        clear G1 G2 H1 H2 H3 H4 H5 HC1
        go_wp2_with fail
        go_ret
        exact ⟨_, reti HWE.out.symm, by rw [HWT.out]; exact HFS.out⟩
      · rw [if_pos (by rfl)]
        refine wp_load_row 35 (.tmp 5) rfl B rfl 35 _ (0, 0) _ (G2.out.drew) Try.underlying35 rfl (cells35 HZl.out) ?_
        refine hK _ _ ?_
        clear hK K
        try simp only [Act.put, List.setIfInBounds_toArray, List.set_cons_zero, List.set_cons_succ]
        refine wpAny_take (i := 7) (oi := { dst := some 27, op := Go.Op.build 82 #[(0, Go.Operand.tmp 25), (1, Go.Operand.tmp 26)], type := 82, pos := "slate.go:54", after := #[{ on := 5, ground := Go.Ground.data }, { on := 6, ground := Go.Ground.data }], guard := none }) (v := .agg (wcells (k, z)).toArray) rfl (by kernel_rfl) (by kernel_rfl) (by kernel_rfl) (fun _ _ _ h => h) (Or.inl ⟨by rfl, fun w => exec_build82 HZl.out rfl rfl rfl⟩) ?_
        simp only [Act.put, List.setIfInBounds_toArray, List.set_cons_zero, List.set_cons_succ]
        refine wpAny_ready (rs := [4, 8]) (by kernel_rfl) (by simp) ?_
        refine AllReady.cons (o := { dst := some 24, op := Go.Op.load 70 (Go.Operand.tmp 23), type := 70, pos := "slate.go:54", after := #[{ on := 3, ground := Go.Ground.data }], guard := none }) rfl (fun K hK => ?_) (AllReady.cons (o := { dst := some 28, op := Go.Op.buildSlice 70 1 #[(0, Go.Operand.tmp 27)], type := 70, pos := "slate.go:54", after := #[{ on := 7, ground := Go.Ground.data }], guard := none }) rfl (fun K hK => ?_) AllReady.nil)
        · have hc1 := HC1.out
          have hc2 := G1.out.cells.1.2.1
          have hl1 := (G1.out.drew).lt
          have hl2 := G1.out.lt
          go_simp
          clear hc1 hc2 hl1 hl2
          refine hK _ _ ?_
          clear hK K
          try simp only [Act.put, List.setIfInBounds_toArray, List.set_cons_zero, List.set_cons_succ]
          refine wpAny_ready (rs := [8]) (by kernel_rfl) (by simp) ?_
          refine AllReady.cons (o := { dst := some 28, op := Go.Op.buildSlice 70 1 #[(0, Go.Operand.tmp 27)], type := 70, pos := "slate.go:54", after := #[{ on := 7, ground := Go.Ground.data }], guard := none }) rfl (fun K hK => ?_) AllReady.nil
          rw [if_pos (by rfl)]
          refine wp_buildSlice_one 70 1 (.tmp 27) rfl (.agg (wcells (k, z)).toArray) rfl _ _ (build70 HZl.out wr.drew) ?_
          refine hK _ _ ?_
          clear hK K
          try simp only [Act.put, List.setIfInBounds_toArray, List.set_cons_zero, List.set_cons_succ]
          refine wpAny_ready (rs := [9]) (by kernel_rfl) (by simp) ?_
          refine AllReady.cons (o := { dst := some 29, op := Go.Op.call { callee := Go.Callee.builtin Go.Builtin.append, args := #[Go.Operand.tmp 24, Go.Operand.tmp 28], argTypes := #[70, 70] }, type := 70, pos := "slate.go:54", after := #[{ on := 4, ground := Go.Ground.data }, { on := 8, ground := Go.Ground.data }], guard := none }) rfl (fun K hK => ?_) AllReady.nil
          refine step_append_lies _ rfl (.tmp 24) (.tmp 28) 70 rfl (g + 2) 82 i0 (.agg (List.replicate 65 (.int .u8 0) |>.set 0 (.int .i64 0)).toArray) 65 72 Try.underlying70 hi hz0 hz1 hz2 rfl (by decide) v s1.q.length (qcells s1.q) rfl ((G1.out.drew).alloc _).o ⟨wr.drew.heap.size, 0, none⟩ 1 1 (wcells (k, z)) rfl ?d9 ?d0 ?d1 (by decide) ?d3 ?d4 ?d5 (wr.heap.size + 1) ?d6 ?_
          case d9 => rw [wcells_len HZl.out]
          case d0 => exact World.news_of_block (Blk.new wr.drew (.cells (wcells (k, z)).toArray 82))
          case d1 => exact wcells_one (k, z)
          case d3 => have := HQ.out; unfold maxLen; omega
          case d4 => have := HQ.out; omega
          case d5 => have := G1.out.lt; rw [drew_alloc_size]; omega
          case d6 => exact drew_alloc_size _ _
          intro g' cap2 w3 ho hg hv hlt
          have H1 := Kp.mk ho
          have H2 : Kp ((wr.drew.alloc (.cells (wcells (k, z)).toArray 82)).grownBy w3 v.ownBlock) := ⟨hg⟩
          have H3 : Kp (v.ownBlock = some g' ∨ g' = wr.heap.size + 1) := ⟨hv⟩
          have HVB : Kp (∀ j, v.ownBlock = some j → g + 2 ≤ j) := ⟨fun j e => (G1.out.o.lt j e).1⟩
          have H4 : Kp (Blk w3 (g + 1) (slObj g v s1)) := ⟨(hg.block (g + 1) (by have := G1.out.lt; rw [drew_alloc_size]; omega) (fun e => by have := HVB.out _ e.symm; omega)).trans (((G1.out.drew).alloc _).b)⟩
          have H5 : Kp (Row w3 g 35 .u8 s1.ls) := ⟨(hg.block g (by have := G1.out.lt; rw [drew_alloc_size]; omega) (fun e => by have := HVB.out _ e.symm; omega)).trans (((G1.out.drew).alloc _).r)⟩
          clear ho hg hv hlt
          refine hK _ _ ?_
          clear hK K
          try simp only [Act.put, List.setIfInBounds_toArray, List.set_cons_zero, List.set_cons_succ]
          refine wpAny_take (i := 10) (oi := { dst := some 30, op := Go.Op.nilCheck (Go.Operand.tmp 20), type := 0, pos := "slate.go:54", after := #[{ on := 0, ground := Go.Ground.data }, { on := 0, ground := Go.Ground.phase }, { on := 1, ground := Go.Ground.phase }, { on := 2, ground := Go.Ground.phase }, { on := 3, ground := Go.Ground.phase }, { on := 4, ground := Go.Ground.phase }, { on := 5, ground := Go.Ground.phase }, { on := 6, ground := Go.Ground.phase }, { on := 7, ground := Go.Ground.phase }, { on := 8, ground := Go.Ground.phase }, { on := 9, ground := Go.Ground.phase }], guard := none }) (v := slP g) rfl (by kernel_rfl) (by kernel_rfl) (by kernel_rfl) (fun _ _ _ h => h) (Or.inl ⟨by rfl, fun w => by go_simp⟩) ?_
          simp only [Act.put, List.setIfInBounds_toArray, List.set_cons_zero, List.set_cons_succ]
          refine wpAny_take (i := 11) (oi := { dst := some 31, op := Go.Op.fieldAddr 72 (Go.Operand.tmp 30) 1, type := 0, pos := "slate.go:54", after := #[{ on := 10, ground := Go.Ground.data }, { on := 0, ground := Go.Ground.phase }, { on := 1, ground := Go.Ground.phase }, { on := 2, ground := Go.Ground.phase }, { on := 3, ground := Go.Ground.phase }, { on := 4, ground := Go.Ground.phase }, { on := 5, ground := Go.Ground.phase }, { on := 6, ground := Go.Ground.phase }, { on := 7, ground := Go.Ground.phase }, { on := 8, ground := Go.Ground.phase }, { on := 9, ground := Go.Ground.phase }], guard := none }) (v := .pointer (some ⟨g + 1, 1, none⟩)) rfl (by kernel_rfl) (by kernel_rfl) (by kernel_rfl) (fun _ _ _ h => h) (Or.inl ⟨by rfl, fun w => by go_simp⟩) ?_
          simp only [Act.put, List.setIfInBounds_toArray, List.set_cons_zero, List.set_cons_succ]
          refine wpAny_ready (rs := [12]) (by kernel_rfl) (by simp) ?_
          refine AllReady.cons (o := { dst := none, op := Go.Op.store 70 (Go.Operand.tmp 31) (Go.Operand.tmp 29), type := 0, pos := "slate.go:54", after := #[{ on := 11, ground := Go.Ground.data }, { on := 9, ground := Go.Ground.data }, { on := 9, ground := Go.Ground.chain }, { on := 0, ground := Go.Ground.phase }, { on := 1, ground := Go.Ground.phase }, { on := 2, ground := Go.Ground.phase }, { on := 3, ground := Go.Ground.phase }, { on := 4, ground := Go.Ground.phase }, { on := 5, ground := Go.Ground.phase }, { on := 6, ground := Go.Ground.phase }, { on := 7, ground := Go.Ground.phase }, { on := 8, ground := Go.Ground.phase }, { on := 9, ground := Go.Ground.phase }], guard := none }) rfl (fun K hK => ?_) AllReady.nil
          have hc1 := H4.out.cell 1
          have hf1 := Blk.frozen H4.out 1
          go_simp
          clear hc1 hf1
          refine hK _ _ ?_
          clear hK K
          try simp only [Act.put, List.setIfInBounds_toArray, List.set_cons_zero, List.set_cons_succ]
          refine wpAny_done (by kernel_rfl) ?_ _
          have HFS := Kp.mk (SlStep.trans HS2.out (SlStep.app G1.out HZl.out HZb.out HKn1.out H1.out H2.out H3.out H4.out H5.out))
          clear G1 G2 H1 H2 H3 H4 H5 HC1
          go_wp2_with fail
          go_ret
          exact ⟨_, reti HWE.out.symm, by rw [HWT.out]; exact HFS.out⟩
        · rw [if_pos (by rfl)]
          refine wp_buildSlice_one 70 1 (.tmp 27) rfl (.agg (wcells (k, z)).toArray) rfl _ _ (build70 HZl.out wr.drew) ?_
          refine hK _ _ ?_
          clear hK K
          try simp only [Act.put, List.setIfInBounds_toArray, List.set_cons_zero, List.set_cons_succ]
          refine wpAny_ready (rs := [4]) (by kernel_rfl) (by simp) ?_
          refine AllReady.cons (o := { dst := some 24, op := Go.Op.load 70 (Go.Operand.tmp 23), type := 70, pos := "slate.go:54", after := #[{ on := 3, ground := Go.Ground.data }], guard := none }) rfl (fun K hK => ?_) AllReady.nil
          have hc1 := HC1.out
          have hc2 := G1.out.cells.1.2.1
          have hl1 := (G1.out.drew).lt
          have hl2 := G1.out.lt
          go_simp
          clear hc1 hc2 hl1 hl2
          rw [show (wr.alloc (.cells (wcells (k, z)).toArray 82)).drew = wr.drew.alloc (.cells (wcells (k, z)).toArray 82) from rfl]
          refine hK _ _ ?_
          clear hK K
          try simp only [Act.put, List.setIfInBounds_toArray, List.set_cons_zero, List.set_cons_succ]
          refine wpAny_ready (rs := [9]) (by kernel_rfl) (by simp) ?_
          refine AllReady.cons (o := { dst := some 29, op := Go.Op.call { callee := Go.Callee.builtin Go.Builtin.append, args := #[Go.Operand.tmp 24, Go.Operand.tmp 28], argTypes := #[70, 70] }, type := 70, pos := "slate.go:54", after := #[{ on := 4, ground := Go.Ground.data }, { on := 8, ground := Go.Ground.data }], guard := none }) rfl (fun K hK => ?_) AllReady.nil
          refine step_append_lies _ rfl (.tmp 24) (.tmp 28) 70 rfl (g + 2) 82 i0 (.agg (List.replicate 65 (.int .u8 0) |>.set 0 (.int .i64 0)).toArray) 65 72 Try.underlying70 hi hz0 hz1 hz2 rfl (by decide) v s1.q.length (qcells s1.q) rfl ((G1.out.drew).alloc _).o ⟨wr.drew.heap.size, 0, none⟩ 1 1 (wcells (k, z)) rfl ?d9 ?d0 ?d1 (by decide) ?d3 ?d4 ?d5 (wr.heap.size + 1) ?d6 ?_
          case d9 => rw [wcells_len HZl.out]
          case d0 => exact World.news_of_block (Blk.new wr.drew (.cells (wcells (k, z)).toArray 82))
          case d1 => exact wcells_one (k, z)
          case d3 => have := HQ.out; unfold maxLen; omega
          case d4 => have := HQ.out; omega
          case d5 => have := G1.out.lt; rw [drew_alloc_size]; omega
          case d6 => exact drew_alloc_size _ _
          intro g' cap2 w3 ho hg hv hlt
          have H1 := Kp.mk ho
          have H2 : Kp ((wr.drew.alloc (.cells (wcells (k, z)).toArray 82)).grownBy w3 v.ownBlock) := ⟨hg⟩
          have H3 : Kp (v.ownBlock = some g' ∨ g' = wr.heap.size + 1) := ⟨hv⟩
          have HVB : Kp (∀ j, v.ownBlock = some j → g + 2 ≤ j) := ⟨fun j e => (G1.out.o.lt j e).1⟩
          have H4 : Kp (Blk w3 (g + 1) (slObj g v s1)) := ⟨(hg.block (g + 1) (by have := G1.out.lt; rw [drew_alloc_size]; omega) (fun e => by have := HVB.out _ e.symm; omega)).trans (((G1.out.drew).alloc _).b)⟩
          have H5 : Kp (Row w3 g 35 .u8 s1.ls) := ⟨(hg.block g (by have := G1.out.lt; rw [drew_alloc_size]; omega) (fun e => by have := HVB.out _ e.symm; omega)).trans (((G1.out.drew).alloc _).r)⟩
          clear ho hg hv hlt
          refine hK _ _ ?_
          clear hK K
          try simp only [Act.put, List.setIfInBounds_toArray, List.set_cons_zero, List.set_cons_succ]
          refine wpAny_take (i := 10) (oi := { dst := some 30, op := Go.Op.nilCheck (Go.Operand.tmp 20), type := 0, pos := "slate.go:54", after := #[{ on := 0, ground := Go.Ground.data }, { on := 0, ground := Go.Ground.phase }, { on := 1, ground := Go.Ground.phase }, { on := 2, ground := Go.Ground.phase }, { on := 3, ground := Go.Ground.phase }, { on := 4, ground := Go.Ground.phase }, { on := 5, ground := Go.Ground.phase }, { on := 6, ground := Go.Ground.phase }, { on := 7, ground := Go.Ground.phase }, { on := 8, ground := Go.Ground.phase }, { on := 9, ground := Go.Ground.phase }], guard := none }) (v := slP g) rfl (by kernel_rfl) (by kernel_rfl) (by kernel_rfl) (fun _ _ _ h => h) (Or.inl ⟨by rfl, fun w => by go_simp⟩) ?_
          simp only [Act.put, List.setIfInBounds_toArray, List.set_cons_zero, List.set_cons_succ]
          refine wpAny_take (i := 11) (oi := { dst := some 31, op := Go.Op.fieldAddr 72 (Go.Operand.tmp 30) 1, type := 0, pos := "slate.go:54", after := #[{ on := 10, ground := Go.Ground.data }, { on := 0, ground := Go.Ground.phase }, { on := 1, ground := Go.Ground.phase }, { on := 2, ground := Go.Ground.phase }, { on := 3, ground := Go.Ground.phase }, { on := 4, ground := Go.Ground.phase }, { on := 5, ground := Go.Ground.phase }, { on := 6, ground := Go.Ground.phase }, { on := 7, ground := Go.Ground.phase }, { on := 8, ground := Go.Ground.phase }, { on := 9, ground := Go.Ground.phase }], guard := none }) (v := .pointer (some ⟨g + 1, 1, none⟩)) rfl (by kernel_rfl) (by kernel_rfl) (by kernel_rfl) (fun _ _ _ h => h) (Or.inl ⟨by rfl, fun w => by go_simp⟩) ?_
          simp only [Act.put, List.setIfInBounds_toArray, List.set_cons_zero, List.set_cons_succ]
          refine wpAny_ready (rs := [12]) (by kernel_rfl) (by simp) ?_
          refine AllReady.cons (o := { dst := none, op := Go.Op.store 70 (Go.Operand.tmp 31) (Go.Operand.tmp 29), type := 0, pos := "slate.go:54", after := #[{ on := 11, ground := Go.Ground.data }, { on := 9, ground := Go.Ground.data }, { on := 9, ground := Go.Ground.chain }, { on := 0, ground := Go.Ground.phase }, { on := 1, ground := Go.Ground.phase }, { on := 2, ground := Go.Ground.phase }, { on := 3, ground := Go.Ground.phase }, { on := 4, ground := Go.Ground.phase }, { on := 5, ground := Go.Ground.phase }, { on := 6, ground := Go.Ground.phase }, { on := 7, ground := Go.Ground.phase }, { on := 8, ground := Go.Ground.phase }, { on := 9, ground := Go.Ground.phase }], guard := none }) rfl (fun K hK => ?_) AllReady.nil
          have hc1 := H4.out.cell 1
          have hf1 := Blk.frozen H4.out 1
          go_simp
          clear hc1 hf1
          refine hK _ _ ?_
          clear hK K
          try simp only [Act.put, List.setIfInBounds_toArray, List.set_cons_zero, List.set_cons_succ]
          refine wpAny_done (by kernel_rfl) ?_ _
          have HFS := Kp.mk (SlStep.trans HS2.out (SlStep.app G1.out HZl.out HZb.out HKn1.out H1.out H2.out H3.out H4.out H5.out))
          clear G1 G2 H1 H2 H3 H4 H5 HC1
          go_wp2_with fail
          go_ret
          exact ⟨_, reti HWE.out.symm, by rw [HWT.out]; exact HFS.out⟩
    · have HWS : Kp (writeE s k = stepE s ∧ writeS s k z = stepS s) := ⟨by rw [HW.out.1, HW.out.2, if_neg hs0]; exact ⟨rfl, rfl⟩⟩
      have h5 : stepE s = 5 := by unfold stepE at hs0 ⊢; split <;> simp_all
      rw [h5]
      have HW5 : Kp (5 = writeE s k) := ⟨by rw [HWS.out.1, h5]⟩
      clear hs0 h5 HW
      go_wp2_with fail
      go_ret
      exact ⟨v, reti HW5.out, by rw [HWS.out.2]; exact HS2.out⟩
  · have HWS : Kp (writeE s a = e ∧ writeS s a z = s) := ⟨by
      have e1 : ¬ hasE s a = 0 := by rw [← he]; exact h0
      exact ⟨by unfold writeE; rw [if_neg e1, he], by unfold writeS; rw [if_neg e1]⟩⟩
    have he0 : (e != 0) = true := by simp [h0]
    rw [HWS.out.1, HWS.out.2]
    clear h0 he HWS
    go_enter Try.func16, Try.ntmps16
    go_wp2_with (refine wpList_box_eq rfl 35 (.tmp 2) rfl _ rfl _ _ (hC _) ?_)
    clear hC
    refine (has_any g v s a _ (H.out.alloc _)).mono ?_
    rintro r w1 ⟨rfl, rfl⟩
    rw [← HE.out]
    have HS1 := Kp.mk (SlStep.same H.out (more (Below.refl _ _) (.cells (kv .u8 z).toArray 35)))
    go_wp2_with fail
    go_ret
    exact ⟨v, rfl, HS1.out⟩
end Go.Proofs.Ytgikedbnnlckjaa
