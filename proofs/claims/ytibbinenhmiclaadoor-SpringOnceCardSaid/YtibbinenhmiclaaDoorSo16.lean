/-
  tree's function: the ends of all ladders, and the grove of them.
  tree, Root: the grove is made once.
  The document's example.
  SpringNil.
  What the document's answer says of rules; a spring that may not be.
  Root; Light, Many of the document's answer.
-/
import Derived.Test.YtibbinenhmiclaaDoorSo15
namespace Go.Proofs.YtibbinenhmiclaaDoor
open Go.RowKit

theorem wp_of_exec {P : Program} {o : Oper} {a : Act} {w : World} {v : Value} {K : Act → World → Prop} {Q : Exit → Act → World → Prop} (he : (execOp a.eval o).run P w = .ok (.value v) w) (h : K (a.put o.dst v) w) : o.wp P a w K Q := by
  unfold Oper.wp
  simp only [he]
  exact h
theorem own_map {a : Option Addr} {n c k : Nat} (h : (Value.slice a n c).ownBlock = some k) : a.map (·.block) = some k := by
  cases a with
  | none => cases h
  | some x => exact h
theorem sp_41 {m : SpM} (h : m.seed.length = 32) (C n : Nat) (g : GS) (mk : Int) : (spc m C n g mk)[41]? = some g.v := spc_tail h C n g mk 41 (by omega)
theorem spc_g {m : SpM} (h : m.seed.length = 32) (C n : Nat) (g : GS) (mk : Int) (v : Value) : (spc m C n g mk).set 41 v = spc m C n ⟨g.done, g.lk, v⟩ mk := by
  unfold spc
  rw [List.set_append_right (s := _) (t := _) 41 _ (by simp [h])]
  simp [h]
theorem TL.turn41 {w W : World} {B A S C n : Nat} {gl : GS} {m : SpM} {f0 : Nat → Option Value} {i : Nat} {v : Value} {f : Nat → Option Value} (h : TL w B A S C n gl m f0 i v f W) (hl : m.seed.length = 32) (x : Value) : Turn S (.cells (spc m C n ⟨gl.done, gl.lk, x⟩ (cntF f n)).toArray 88) W (W.setCell ⟨S, 41, none⟩ x) :=
  ((Turn.same h.sp.s).set 41 x).as (by rw [List.setIfInBounds_toArray, spc_g hl])
theorem Off.put {w W : World} {B A S C n : Nat} {gl : GS} {m : SpM} {f0 : Nat → Option Value} {i : Nat} {v : Value} {f : Nat → Option Value} (h : TL w B A S C n gl m f0 i v f W) (hl : m.seed.length = 32) (x : Value) : Off B S C W (W.setCell ⟨S, 41, none⟩ x) :=
  (Off.refl B S C W).turn (h.turn41 hl x) (.inl rfl) h.sp.bs (Nat.le_trans h.bw h.off.b.size)
theorem TL.put {w W : World} {B A S C n : Nat} {gl : GS} {m : SpM} {f0 : Nat → Option Value} {i : Nat} {v : Value} {f : Nat → Option Value} (h : TL w B A S C n gl m f0 i v f W) (hl : m.seed.length = 32) (x : Value) : TL w B A S C n ⟨gl.done, gl.lk, x⟩ m f0 i v f (W.setCell ⟨S, 41, none⟩ x) := by
  have hT := h.turn41 hl x
  have hsa := h.sa
  exact ⟨h.k.turn hT (by have := h.b0; have := h.sp.bs; omega), ⟨hT.blk, hT.keep h.sp.c (Ne.symm h.sp.ne), h.sp.bs, h.sp.bc, fun j u hj hu => ownsRow_turnS (h.sp.el j u hj hu) hT h.sp.s (by decide)⟩, hT.keep h.a0 (by omega), ownsRow_turnS h.row hT h.sp.s (by decide), h.sep, h.al, h.nw, h.off.trans (Off.put h hl x), h.b0, h.bw, h.sa, h.ca, h.aw⟩
set_option maxRecDepth 100000 in
set_option maxHeartbeats 8000000 in
theorem plant_any (m : SpM) (B A S C n k : Nat) (gl : GS) (f : Nat → Option Value) (w : World) (hk : KonIs w) (ho : SpOk m) (hs : SpIs w B S C m n f gl (cntF f n)) (ha : Blk w A (.cells #[.pointer (some ⟨S, 0, none⟩)] 26)) (hb0 : 0 < B) (hbw : B ≤ w.heap.size) (hsa : S < A) (hca : C < A) (hn : n = 2 ^ k) (hk6 : k ≤ 6) :
    Calls Tryd.prog 45 #[.pointer (some ⟨A, 0, none⟩)] w fun r w' => r = .returned (.tuple #[]) ∧ ∃ f' G D, SpIs w' B S C m n f' ⟨gl.done, gl.lk, .pointer (some ⟨G, 0, none⟩)⟩ n ∧ (∀ j, j < n → f' j ≠ none) ∧ (∀ j u kk, j < n → f' j = some u → u.ownBlock = some kk → f j = some u ∨ w.heap.size ≤ kk) ∧ GroveIsS w' (fun x => D ≤ x) G m n k ∧ w.heap.size ≤ D ∧ Off B S C w w' ∧ KonIs w' := by
  have HO := Kp.mk ho
  have HT := Kp.mk (TL.first hk hs ha hb0 hbw hsa hca)
  have HN : Kp (n = 2 ^ k ∧ k ≤ 6 ∧ n ≤ 64) := ⟨hn, hk6, by rw [hn]; exact Nat.le_trans (Nat.pow_le_pow_right (by decide) hk6) (by decide)⟩
  obtain ⟨i0, hi0, hz0, hz1, hz2⟩ := info_parts info33'
  clear hk ho hs ha hb0 hbw hsa hca hn hk6
  have y0 : w.cell? ⟨A, 0, none⟩ = some (.pointer (some ⟨S, 0, none⟩)) := HT.out.a0.cell 0
  have y37 : w.cell? ⟨S, 37, none⟩ = some (.slice (some ⟨C, 0, none⟩) n n) := (HT.out.sp.s.cell 37).trans (by rw [List.getElem?_toArray]; exact sp_37 HO.out.l C n gl _)
  go_enter Tryd.func45, Tryd.ntmps45
  go_wp2_with fail
  clear y0 y37
  go_loopw [1, 2, 8] (fun v1 _ c8 wr => ∃ (i : Nat) (f9 : Nat → Option Value) (a1 : Option Addr) (n1 c1 : Nat), i ≤ n ∧ c8 = .int .i64 i ∧ v1 = .slice a1 n1 c1 ∧ Kp (TL w B A S C n gl m f i v1 f9 wr)) (fun _ _ c _ => n - (intOf c).toNat)
  case atStart => exact ⟨0, f, none, 0, 0, by omega, rfl, rfl, HT⟩
  case round =>
    obtain ⟨i, f9, a1, n1, c1, hi, rfl, rfl, G1⟩ := hrel
    clear HT
    by_cases hlt : (i : Int) < (n : Int)
    · have hin : i < n := by omega
      go_wp2_with fail
      refine wp_region_held_drew (S := fun w' => Kp (∃ gl' i' v' f', TL w B A S C n gl' m f i' v' f' w')) (by kernel_rfl) (⟨_, _, _, _, G1.out.more (Below.refl _ _).drew⟩) (fun hH => ?_)
      refine wpAnyH_take (i := 0) (oi := { dst := some 11, op := Go.Op.move (Go.Operand.tmp 1), type := 50, pos := "spring.go:137", after := #[], guard := none }) (v := .slice a1 n1 c1) rfl (by kernel_rfl) (by kernel_rfl) (by kernel_rfl) (fun _ _ _ h => h) (Or.inl ⟨by rfl, fun w hS => by first | rfl | go_simp⟩) hH ?_
      simp only [Act.put, List.setIfInBounds_toArray, List.set_cons_zero, List.set_cons_succ]
      refine wpAnyH_take (i := 1) (oi := { dst := some 12, op := Go.Op.load 26 (Go.Operand.tmp 0), type := 26, pos := "spring.go:137", after := #[], guard := none }) (v := .pointer (some ⟨S, 0, none⟩)) rfl (by kernel_rfl) (by kernel_rfl) (by kernel_rfl) (fun _ _ _ h => h) (Or.inl ⟨by rfl, fun w hS => by have c1 : w.cell? ⟨A, 0, none⟩ = some (.pointer (some ⟨S, 0, none⟩)) := (by obtain ⟨gl9, i9, v9, f9, h9⟩ := hS.out; exact h9.a0.cell 0); go_simp⟩) hH ?_
      simp only [Act.put, List.setIfInBounds_toArray, List.set_cons_zero, List.set_cons_succ]
      refine wpAnyH_take (i := 2) (oi := { dst := some 13, op := Go.Op.move (Go.Operand.tmp 2), type := 3, pos := "spring.go:137", after := #[], guard := none }) (v := .int .i64 i) rfl (by kernel_rfl) (by kernel_rfl) (by kernel_rfl) (fun _ _ _ h => h) (Or.inl ⟨by rfl, fun w hS => by first | rfl | go_simp⟩) hH ?_
      simp only [Act.put, List.setIfInBounds_toArray, List.set_cons_zero, List.set_cons_succ]
      refine wpAnyH_take (i := 4) (oi := { dst := some 15, op := Go.Op.load 26 (Go.Operand.tmp 0), type := 26, pos := "spring.go:137", after := #[], guard := none }) (v := .pointer (some ⟨S, 0, none⟩)) rfl (by kernel_rfl) (by kernel_rfl) (by kernel_rfl) (fun _ _ _ h => h) (Or.inl ⟨by rfl, fun w hS => by have c1 : w.cell? ⟨A, 0, none⟩ = some (.pointer (some ⟨S, 0, none⟩)) := (by obtain ⟨gl9, i9, v9, f9, h9⟩ := hS.out; exact h9.a0.cell 0); go_simp⟩) hH ?_
      simp only [Act.put, List.setIfInBounds_toArray, List.set_cons_zero, List.set_cons_succ]
      refine wpAnyH_take (i := 5) (oi := { dst := some 16, op := Go.Op.nilCheck (Go.Operand.tmp 15), type := 0, pos := "spring.go:137", after := #[{ on := 4, ground := Go.Ground.data }], guard := none }) (v := .pointer (some ⟨S, 0, none⟩)) rfl (by kernel_rfl) (by kernel_rfl) (by kernel_rfl) (fun _ _ _ h => h) (Or.inl ⟨by rfl, fun w hS => by first | rfl | go_simp⟩) hH ?_
      simp only [Act.put, List.setIfInBounds_toArray, List.set_cons_zero, List.set_cons_succ]
      refine wpAnyH_take (i := 6) (oi := { dst := some 17, op := Go.Op.fieldAddr 88 (Go.Operand.tmp 16) 0, type := 0, pos := "spring.go:137", after := #[{ on := 5, ground := Go.Ground.data }], guard := none }) (v := .pointer (some ⟨S, 0, none⟩)) rfl (by kernel_rfl) (by kernel_rfl) (by kernel_rfl) (fun _ _ _ h => h) (Or.inl ⟨by rfl, fun w hS => by first | rfl | go_simp⟩) hH ?_
      simp only [Act.put, List.setIfInBounds_toArray, List.set_cons_zero, List.set_cons_succ]
      refine wpAnyH_take (i := 7) (oi := { dst := some 18, op := Go.Op.fieldAddr 30 (Go.Operand.tmp 17) 1, type := 0, pos := "spring.go:137", after := #[{ on := 6, ground := Go.Ground.data }], guard := none }) (v := .pointer (some ⟨S, 1, none⟩)) rfl (by kernel_rfl) (by kernel_rfl) (by kernel_rfl) (fun _ _ _ h => h) (Or.inl ⟨by rfl, fun w hS => by first | rfl | go_simp⟩) hH ?_
      simp only [Act.put, List.setIfInBounds_toArray, List.set_cons_zero, List.set_cons_succ]
      refine wpAnyH_take (i := 8) (oi := { dst := some 19, op := Go.Op.load 3 (Go.Operand.tmp 18), type := 3, pos := "spring.go:137", after := #[{ on := 7, ground := Go.Ground.data }], guard := none }) (v := .int .i64 m.st) rfl (by kernel_rfl) (by kernel_rfl) (by kernel_rfl) (fun _ _ _ h => h) (Or.inl ⟨by rfl, fun w hS => by have c1 : w.cell? ⟨S, 1, none⟩ = some (.int .i64 m.st) := (by obtain ⟨gl9, i9, v9, f9, h9⟩ := hS.out; exact (h9.sp.s.cell 1).trans (by rw [List.getElem?_toArray]; exact sp_1 m C n gl9 _)); go_simp⟩) hH ?_
      simp only [Act.put, List.setIfInBounds_toArray, List.set_cons_zero, List.set_cons_succ]
      refine wpAnyH_ready (rs := [3]) (by kernel_rfl) (by simp) ?_
      refine AllReadyH.cons (o := { dst := some 14, op := Go.Op.call { callee := Go.Callee.value (Go.Operand.func 35), args := #[Go.Operand.tmp 12, Go.Operand.tmp 13], argTypes := #[26, 3] }, type := 50, pos := "spring.go:137", after := #[{ on := 1, ground := Go.Ground.data }, { on := 2, ground := Go.Ground.data }], guard := none }) rfl (fun K hK => ?_) AllReadyH.nil
      have G2 : Kp (TL w B A S C n gl m f i (.slice a1 n1 c1) f9 wr.drew) := ⟨G1.out.more (Below.refl _ _).drew⟩
      go_simp
      refine (elements_any m B S C n f9 gl (cntF f9 n) i wr.drew G2.out.k HO.out G2.out.sp G2.out.b0 (Nat.le_trans G2.out.bw G2.out.off.b.size) hin HN.out.2.2 (by have := cntF_le f9 n; have := HN.out.2.2; omega)).mono ?_
      rintro r w1 ⟨a9, c9, f', mk', rfl, h1, h2, h3, h4, h5, h6⟩
      have G3 := Kp.mk (G2.out.next hin h1 h2 h3 (fun h => ⟨(h4 h).1, (h4 h).2.1, fun k hk => (h4 h).2.2 k (own_map hk)⟩) h5 h6)
      have HE := Kp.mk (own_segS (h1.el i _ hin h2) (r := m.st.toNat) (by omega))
      obtain ⟨G, cap9, e9, hG⟩ := HE.out
      simp only [Value.slice.injEq, true_and] at e9
      obtain ⟨rfl, rfl⟩ := e9
      have HG := Kp.mk hG
      clear h1 h2 h3 h4 h5 h6 hG HE G1 G2
      refine hK.out _ _ (⟨_, _, _, _, G3.out.1⟩) (fun hHn => ?_)
      clear hK K hH
      have hH := hHn
      clear hHn
      try simp only [Act.put, List.setIfInBounds_toArray, List.set_cons_zero, List.set_cons_succ]
      refine wpAnyH_take (i := 9) (oi := { dst := some 20, op := Go.Op.indexAddr 50 (Go.Operand.tmp 14) (Go.Operand.tmp 19), type := 0, pos := "spring.go:137", after := #[{ on := 3, ground := Go.Ground.data }, { on := 8, ground := Go.Ground.data }], guard := none }) (v := .pointer (some ⟨G, m.st.toNat * 16, none⟩)) rfl (by kernel_rfl) (by kernel_rfl) (by kernel_rfl) (fun _ _ _ h => h) (Or.inl ⟨by rfl, fun w hS => exec_idx66 (x := .tmp 14) (y := .tmp 19) (B := G) (n := m.st.toNat + 1) (cap := c9) (j := m.st.toNat) rfl rfl rfl (by have := HO.out.s; omega) (by omega)⟩) hH ?_
      simp only [Act.put, List.setIfInBounds_toArray, List.set_cons_zero, List.set_cons_succ]
      refine wpAnyH_ready (rs := [10]) (by kernel_rfl) (by simp) ?_
      refine AllReadyH.cons (o := { dst := some 21, op := Go.Op.load 43 (Go.Operand.tmp 20), type := 43, pos := "spring.go:137", after := #[{ on := 9, ground := Go.Ground.data }], guard := none }) rfl (fun K hK => ?_) AllReadyH.nil
      rw [if_pos (by rfl)]
      refine wp_of_exec (v := dgV (elR m i m.st.toNat)) (exec_load_at33 (x := .tmp 20) rfl rfl HG.out (elR_len m i m.st.toNat)) ?_
      refine hK.out _ _ (⟨_, _, _, _, G3.out.1⟩) (fun hHn => ?_)
      clear hK K hH
      have hH := hHn
      clear hHn
      try simp only [Act.put, List.setIfInBounds_toArray, List.set_cons_zero, List.set_cons_succ]
      refine wpAnyH_ready (rs := [11]) (by kernel_rfl) (by simp) ?_
      refine AllReadyH.cons (o := { dst := some 22, op := Go.Op.buildSlice 50 1 #[(0, Go.Operand.tmp 21)], type := 50, pos := "spring.go:137", after := #[{ on := 10, ground := Go.Ground.data }], guard := none }) rfl (fun K hK => ?_) AllReadyH.nil
      rw [if_pos (by rfl)]
      refine wp_buildSlice_one 50 1 (.tmp 21) rfl (dgV (elR m i m.st.toNat)) rfl _ _ (build66 (elR_len m i m.st.toNat) w1) ?_
      refine hK.out _ _ (⟨_, _, _, _, G3.out.1.more (more (Below.refl _ _) _)⟩) (fun hHn => ?_)
      clear hK K hH
      have hH := hHn
      clear hHn
      try simp only [Act.put, List.setIfInBounds_toArray, List.set_cons_zero, List.set_cons_succ]
      refine wpAnyH_ready (rs := [12]) (by kernel_rfl) (by simp) ?_
      refine AllReadyH.cons (o := { dst := some 23, op := Go.Op.call { callee := Go.Callee.builtin Go.Builtin.append, args := #[Go.Operand.tmp 11, Go.Operand.tmp 22], argTypes := #[50, 50] }, type := 50, pos := "spring.go:137", after := #[{ on := 0, ground := Go.Ground.data }, { on := 11, ground := Go.Ground.data }, { on := 3, ground := Go.Ground.chain }], guard := none }) rfl (fun K hK => ?_) AllReadyH.nil
      refine step_append_lies _ rfl (.tmp 11) (.tmp 22) 50 rfl w.heap.size 43 i0 (.agg (kv .u8 (fill 16 [])).toArray) 16 16 Tryd.underlying50 hi0 hz0 hz1 hz2 rfl (by decide) (.slice a1 n1 c1) i (bv (endsL m i)) rfl (G3.out.1.row.alloc _) ⟨w1.heap.size, 0, none⟩ 1 1 (bv (elR m i m.st.toNat)) rfl ?d9 (row_new _ _ _) ?d1 (by decide) ?d3 ?d4 ?d5 (w1.heap.size + 1) ?d6 ?_
      case d9 => rw [bv_len, elR_len]
      case d1 => exact bv_one _
      case d3 => have := HN.out.2.2; unfold maxLen; omega
      case d4 => have := HN.out.2.2; omega
      case d5 => have := G3.out.1.off.b.size; simp; omega
      case d6 => simp
      intro g cap2 w3 ho hg hv hlt
      have G4 := Kp.mk ((G3.out.1.more (more (Below.refl _ _) _)).app G3.out.2 hg ho hv (by simp))
      clear ho hg hv hlt
      refine hK.out _ _ (⟨_, _, _, _, G4.out⟩) (fun hHn => ?_)
      clear hK K hH
      have hH := hHn
      clear hHn
      try simp only [Act.put, List.setIfInBounds_toArray, List.set_cons_zero, List.set_cons_succ]
      refine wpAnyH_ready (rs := [13]) (by kernel_rfl) (by simp) ?_
      refine AllReadyH.cons (o := { dst := some 1, op := Go.Op.assign (Go.Operand.tmp 23), type := 50, pos := "spring.go:137", after := #[{ on := 12, ground := Go.Ground.data }, { on := 12, ground := Go.Ground.chain }, { on := 0, ground := Go.Ground.phase }, { on := 1, ground := Go.Ground.phase }, { on := 2, ground := Go.Ground.phase }, { on := 3, ground := Go.Ground.phase }, { on := 4, ground := Go.Ground.phase }, { on := 5, ground := Go.Ground.phase }, { on := 6, ground := Go.Ground.phase }, { on := 7, ground := Go.Ground.phase }, { on := 8, ground := Go.Ground.phase }, { on := 9, ground := Go.Ground.phase }, { on := 10, ground := Go.Ground.phase }, { on := 11, ground := Go.Ground.phase }, { on := 12, ground := Go.Ground.phase }], guard := none }) rfl (fun K hK => ?_) AllReadyH.nil
      go_simp
      refine hK.out _ _ (⟨_, _, _, _, G4.out⟩) (fun hHn => ?_)
      clear hK K hH
      have hH := hHn
      clear hHn
      try simp only [Act.put, List.setIfInBounds_toArray, List.set_cons_zero, List.set_cons_succ]
      clear hH
      refine wpAnyH_done (by kernel_rfl) ?_ _
      have h64 := HN.out.2.2
      go_wp2_with fail
      exact ⟨⟨i + 1, f', _, _, _, by omega, by go_num, rfl, G4⟩, by simp [intOf]; omega⟩
    · obtain rfl : n = i := by omega
      obtain rfl : n = n1 := (ownsRow_lenS G1.out.row).symm
      go_wp2_with fail
      refine wp_region_held_drew (S := fun w' => Kp (∃ gl' i' v' f', TL w B A S C n gl' m f i' v' f' w')) (by kernel_rfl) (⟨_, _, _, _, G1.out.more (Below.refl _ _).drew⟩) (fun hH => ?_)
      refine wpAnyH_take (i := 0) (oi := { dst := some 26, op := Go.Op.load 26 (Go.Operand.tmp 0), type := 26, pos := "spring.go:139", after := #[], guard := none }) (v := .pointer (some ⟨S, 0, none⟩)) rfl (by kernel_rfl) (by kernel_rfl) (by kernel_rfl) (fun _ _ _ h => h) (Or.inl ⟨by rfl, fun w hS => by have c1 : w.cell? ⟨A, 0, none⟩ = some (.pointer (some ⟨S, 0, none⟩)) := (by obtain ⟨gl9, i9, v9, f9, h9⟩ := hS.out; exact h9.a0.cell 0); go_simp⟩) hH ?_
      simp only [Act.put, List.setIfInBounds_toArray, List.set_cons_zero, List.set_cons_succ]
      refine wpAnyH_take (i := 1) (oi := { dst := some 27, op := Go.Op.load 26 (Go.Operand.tmp 0), type := 26, pos := "spring.go:139", after := #[], guard := none }) (v := .pointer (some ⟨S, 0, none⟩)) rfl (by kernel_rfl) (by kernel_rfl) (by kernel_rfl) (fun _ _ _ h => h) (Or.inl ⟨by rfl, fun w hS => by have c1 : w.cell? ⟨A, 0, none⟩ = some (.pointer (some ⟨S, 0, none⟩)) := (by obtain ⟨gl9, i9, v9, f9, h9⟩ := hS.out; exact h9.a0.cell 0); go_simp⟩) hH ?_
      simp only [Act.put, List.setIfInBounds_toArray, List.set_cons_zero, List.set_cons_succ]
      refine wpAnyH_take (i := 2) (oi := { dst := some 28, op := Go.Op.nilCheck (Go.Operand.tmp 27), type := 0, pos := "spring.go:139", after := #[{ on := 1, ground := Go.Ground.data }], guard := none }) (v := .pointer (some ⟨S, 0, none⟩)) rfl (by kernel_rfl) (by kernel_rfl) (by kernel_rfl) (fun _ _ _ h => h) (Or.inl ⟨by rfl, fun w hS => by first | rfl | go_simp⟩) hH ?_
      simp only [Act.put, List.setIfInBounds_toArray, List.set_cons_zero, List.set_cons_succ]
      refine wpAnyH_take (i := 3) (oi := { dst := some 29, op := Go.Op.fieldAddr 88 (Go.Operand.tmp 28) 2, type := 0, pos := "spring.go:139", after := #[{ on := 2, ground := Go.Ground.data }], guard := none }) (v := .pointer (some ⟨S, 35, none⟩)) rfl (by kernel_rfl) (by kernel_rfl) (by kernel_rfl) (fun _ _ _ h => h) (Or.inl ⟨by rfl, fun w hS => by first | rfl | go_simp⟩) hH ?_
      simp only [Act.put, List.setIfInBounds_toArray, List.set_cons_zero, List.set_cons_succ]
      refine wpAnyH_take (i := 4) (oi := { dst := some 30, op := Go.Op.load 3 (Go.Operand.tmp 29), type := 3, pos := "spring.go:139", after := #[{ on := 3, ground := Go.Ground.data }], guard := none }) (v := .int .i64 m.d) rfl (by kernel_rfl) (by kernel_rfl) (by kernel_rfl) (fun _ _ _ h => h) (Or.inl ⟨by rfl, fun w hS => by have c1 : w.cell? ⟨S, 35, none⟩ = some (.int .i64 m.d) := (by obtain ⟨gl9, i9, v9, f9, h9⟩ := hS.out; exact (h9.sp.s.cell 35).trans (by rw [List.getElem?_toArray]; exact sp_35 HO.out.l C n gl9 _)); go_simp⟩) hH ?_
      simp only [Act.put, List.setIfInBounds_toArray, List.set_cons_zero, List.set_cons_succ]
      refine wpAnyH_take (i := 5) (oi := { dst := some 31, op := Go.Op.load 26 (Go.Operand.tmp 0), type := 26, pos := "spring.go:139", after := #[], guard := none }) (v := .pointer (some ⟨S, 0, none⟩)) rfl (by kernel_rfl) (by kernel_rfl) (by kernel_rfl) (fun _ _ _ h => h) (Or.inl ⟨by rfl, fun w hS => by have c1 : w.cell? ⟨A, 0, none⟩ = some (.pointer (some ⟨S, 0, none⟩)) := (by obtain ⟨gl9, i9, v9, f9, h9⟩ := hS.out; exact h9.a0.cell 0); go_simp⟩) hH ?_
      simp only [Act.put, List.setIfInBounds_toArray, List.set_cons_zero, List.set_cons_succ]
      refine wpAnyH_take (i := 6) (oi := { dst := some 32, op := Go.Op.nilCheck (Go.Operand.tmp 31), type := 0, pos := "spring.go:139", after := #[{ on := 5, ground := Go.Ground.data }], guard := none }) (v := .pointer (some ⟨S, 0, none⟩)) rfl (by kernel_rfl) (by kernel_rfl) (by kernel_rfl) (fun _ _ _ h => h) (Or.inl ⟨by rfl, fun w hS => by first | rfl | go_simp⟩) hH ?_
      simp only [Act.put, List.setIfInBounds_toArray, List.set_cons_zero, List.set_cons_succ]
      refine wpAnyH_take (i := 7) (oi := { dst := some 33, op := Go.Op.fieldAddr 88 (Go.Operand.tmp 32) 3, type := 0, pos := "spring.go:139", after := #[{ on := 6, ground := Go.Ground.data }], guard := none }) (v := .pointer (some ⟨S, 36, none⟩)) rfl (by kernel_rfl) (by kernel_rfl) (by kernel_rfl) (fun _ _ _ h => h) (Or.inl ⟨by rfl, fun w hS => by first | rfl | go_simp⟩) hH ?_
      simp only [Act.put, List.setIfInBounds_toArray, List.set_cons_zero, List.set_cons_succ]
      refine wpAnyH_take (i := 8) (oi := { dst := some 34, op := Go.Op.load 25 (Go.Operand.tmp 33), type := 25, pos := "spring.go:139", after := #[{ on := 7, ground := Go.Ground.data }], guard := none }) (v := .int .u32 m.e) rfl (by kernel_rfl) (by kernel_rfl) (by kernel_rfl) (fun _ _ _ h => h) (Or.inl ⟨by rfl, fun w hS => by have c1 : w.cell? ⟨S, 36, none⟩ = some (.int .u32 m.e) := (by obtain ⟨gl9, i9, v9, f9, h9⟩ := hS.out; exact (h9.sp.s.cell 36).trans (by rw [List.getElem?_toArray]; exact sp_36 HO.out.l C n gl9 _)); go_simp⟩) hH ?_
      simp only [Act.put, List.setIfInBounds_toArray, List.set_cons_zero, List.set_cons_succ]
      refine wpAnyH_take (i := 9) (oi := { dst := some 35, op := Go.Op.move (Go.Operand.tmp 1), type := 50, pos := "spring.go:139", after := #[], guard := none }) (v := .slice a1 n c1) rfl (by kernel_rfl) (by kernel_rfl) (by kernel_rfl) (fun _ _ _ h => h) (Or.inl ⟨by rfl, fun w hS => by first | rfl | go_simp⟩) hH ?_
      simp only [Act.put, List.setIfInBounds_toArray, List.set_cons_zero, List.set_cons_succ]
      refine wpAnyH_ready (rs := [10]) (by kernel_rfl) (by simp) ?_
      refine AllReadyH.cons (o := { dst := some 36, op := Go.Op.call { callee := Go.Callee.value (Go.Operand.func 46), args := #[Go.Operand.tmp 30, Go.Operand.tmp 34, Go.Operand.tmp 35], argTypes := #[3, 25, 50] }, type := 104, pos := "spring.go:139", after := #[{ on := 4, ground := Go.Ground.data }, { on := 8, ground := Go.Ground.data }, { on := 9, ground := Go.Ground.data }], guard := none }) rfl (fun K hK => ?_) AllReadyH.nil
      have G2 : Kp (TL w B A S C n gl m f n (.slice a1 n c1) f9 wr.drew) := ⟨G1.out.more (Below.refl _ _).drew⟩
      go_simp
      refine (newG_any m.d m.e a1 n c1 (endsL m n) k wr.drew G2.out.k (by have := HO.out.e; omega) HN.out.1 HN.out.2.1 (HoldsS.ofRow (endsL_bytes m n) (by have := HN.out.2.2; unfold maxLen; omega) (endsL_len m n) G2.out.row)).mono ?_
      rintro r w1 ⟨G, v9, rfl, h1, h2, h3, h4⟩
      have G3 : Kp (TL w B A S C n gl m f n (.slice a1 n c1) f9 w1) := ⟨G2.out.more h4⟩
      have HGr : Kp (GroveIsS w1 (fun x => wr.drew.heap.size ≤ x) G m n k) := ⟨GroveIsS.of h1 h2 h3⟩
      have HSz : Kp (w.heap.size ≤ wr.drew.heap.size) := ⟨G2.out.off.b.size⟩
      clear h1 h2 h3 h4 G1 G2
      refine hK.out _ _ (⟨_, _, _, _, G3.out⟩) (fun hHn => ?_)
      clear hK K hH
      have hH := hHn
      clear hHn
      try simp only [Act.put, List.setIfInBounds_toArray, List.set_cons_zero, List.set_cons_succ]
      refine wpAnyH_take (i := 11) (oi := { dst := some 25, op := Go.Op.move (Go.Operand.tmp 36), type := 104, pos := "spring.go:139", after := #[{ on := 10, ground := Go.Ground.data }], guard := none }) (v := .tuple #[.pointer (some ⟨G, 0, none⟩), .int .i64 0]) rfl (by kernel_rfl) (by kernel_rfl) (by kernel_rfl) (fun _ _ _ h => h) (Or.inl ⟨by rfl, fun w hS => by first | rfl | go_simp⟩) hH ?_
      simp only [Act.put, List.setIfInBounds_toArray, List.set_cons_zero, List.set_cons_succ]
      refine wpAnyH_take (i := 12) (oi := { dst := some 37, op := Go.Op.extract (Go.Operand.tmp 25) 0, type := 83, pos := "spring.go:139", after := #[{ on := 11, ground := Go.Ground.data }], guard := none }) (v := .pointer (some ⟨G, 0, none⟩)) rfl (by kernel_rfl) (by kernel_rfl) (by kernel_rfl) (fun _ _ _ h => h) (Or.inl ⟨by rfl, fun w hS => by first | rfl | go_simp⟩) hH ?_
      simp only [Act.put, List.setIfInBounds_toArray, List.set_cons_zero, List.set_cons_succ]
      refine wpAnyH_take (i := 13) (oi := { dst := some 38, op := Go.Op.extract (Go.Operand.tmp 25) 1, type := 27, pos := "spring.go:139", after := #[{ on := 11, ground := Go.Ground.data }, { on := 16, ground := Go.Ground.gcOnly Go.Departure.lateStores }], guard := none }) (v := .int .i64 0) rfl (by kernel_rfl) (by kernel_rfl) (by kernel_rfl) (fun _ _ _ h => h) (Or.inl ⟨by rfl, fun w hS => by first | rfl | go_simp⟩) hH ?_
      simp only [Act.put, List.setIfInBounds_toArray, List.set_cons_zero, List.set_cons_succ]
      refine wpAnyH_take (i := 14) (oi := { dst := some 39, op := Go.Op.nilCheck (Go.Operand.tmp 26), type := 0, pos := "spring.go:139", after := #[{ on := 0, ground := Go.Ground.data }, { on := 0, ground := Go.Ground.phase }, { on := 1, ground := Go.Ground.phase }, { on := 2, ground := Go.Ground.phase }, { on := 3, ground := Go.Ground.phase }, { on := 4, ground := Go.Ground.phase }, { on := 5, ground := Go.Ground.phase }, { on := 6, ground := Go.Ground.phase }, { on := 7, ground := Go.Ground.phase }, { on := 8, ground := Go.Ground.phase }, { on := 9, ground := Go.Ground.phase }, { on := 10, ground := Go.Ground.phase }, { on := 11, ground := Go.Ground.phase }, { on := 12, ground := Go.Ground.phase }, { on := 13, ground := Go.Ground.textOnly Go.Departure.lateStores }], guard := none }) (v := .pointer (some ⟨S, 0, none⟩)) rfl (by kernel_rfl) (by kernel_rfl) (by kernel_rfl) (fun _ _ _ h => h) (Or.inl ⟨by rfl, fun w hS => by first | rfl | go_simp⟩) hH ?_
      simp only [Act.put, List.setIfInBounds_toArray, List.set_cons_zero, List.set_cons_succ]
      refine wpAnyH_take (i := 15) (oi := { dst := some 40, op := Go.Op.fieldAddr 88 (Go.Operand.tmp 39) 6, type := 0, pos := "spring.go:139", after := #[{ on := 14, ground := Go.Ground.data }, { on := 0, ground := Go.Ground.phase }, { on := 1, ground := Go.Ground.phase }, { on := 2, ground := Go.Ground.phase }, { on := 3, ground := Go.Ground.phase }, { on := 4, ground := Go.Ground.phase }, { on := 5, ground := Go.Ground.phase }, { on := 6, ground := Go.Ground.phase }, { on := 7, ground := Go.Ground.phase }, { on := 8, ground := Go.Ground.phase }, { on := 9, ground := Go.Ground.phase }, { on := 10, ground := Go.Ground.phase }, { on := 11, ground := Go.Ground.phase }, { on := 12, ground := Go.Ground.phase }, { on := 13, ground := Go.Ground.textOnly Go.Departure.lateStores }], guard := none }) (v := .pointer (some ⟨S, 41, none⟩)) rfl (by kernel_rfl) (by kernel_rfl) (by kernel_rfl) (fun _ _ _ h => h) (Or.inl ⟨by rfl, fun w hS => by first | rfl | go_simp⟩) hH ?_
      simp only [Act.put, List.setIfInBounds_toArray, List.set_cons_zero, List.set_cons_succ]
      refine wpAnyH_ready (rs := [16]) (by kernel_rfl) (by simp) ?_
      refine AllReadyH.cons (o := { dst := none, op := Go.Op.store 83 (Go.Operand.tmp 40) (Go.Operand.tmp 37), type := 0, pos := "spring.go:139", after := #[{ on := 15, ground := Go.Ground.data }, { on := 12, ground := Go.Ground.data }, { on := 10, ground := Go.Ground.chain }, { on := 0, ground := Go.Ground.phase }, { on := 1, ground := Go.Ground.phase }, { on := 2, ground := Go.Ground.phase }, { on := 3, ground := Go.Ground.phase }, { on := 4, ground := Go.Ground.phase }, { on := 5, ground := Go.Ground.phase }, { on := 6, ground := Go.Ground.phase }, { on := 7, ground := Go.Ground.phase }, { on := 8, ground := Go.Ground.phase }, { on := 9, ground := Go.Ground.phase }, { on := 10, ground := Go.Ground.phase }, { on := 11, ground := Go.Ground.phase }, { on := 12, ground := Go.Ground.phase }, { on := 13, ground := Go.Ground.textOnly Go.Departure.lateStores }], guard := none }) rfl (fun K hK => ?_) AllReadyH.nil
      have q2 : w1.cell? ⟨S, 41, none⟩ = some gl.v := (G3.out.sp.s.cell 41).trans (by rw [List.getElem?_toArray]; exact sp_41 HO.out.l C n gl _)
      have q3 := G3.out.sp.s.frozen 41
      go_simp
      clear q2 q3
      have G4 := Kp.mk (G3.out.put HO.out.l (.pointer (some ⟨G, 0, none⟩)))
      have HG4 : Kp (GroveIsS (w1.setCell ⟨S, 41, none⟩ (.pointer (some ⟨G, 0, none⟩))) (fun x => wr.drew.heap.size ≤ x) G m n k) := ⟨(Off.put G3.out HO.out.l _).grove HGr.out (by have := G3.out.sa; have := G3.out.aw; have := HSz.out; omega) (by have := G3.out.ca; have := G3.out.aw; have := HSz.out; omega)⟩
      refine hK.out _ _ (⟨_, _, _, _, G4.out⟩) (fun hHn => ?_)
      clear hK K hH
      have hH := hHn
      clear hHn
      try simp only [Act.put, List.setIfInBounds_toArray, List.set_cons_zero, List.set_cons_succ]
      clear hH
      refine wpAnyH_done (by kernel_rfl) ?_ _
      go_wp2_with fail
      go_end0
      have e9 : ((cntF f9 n : Nat) : Int) = n := by rw [cntF_all G3.out.al]
      have h9 := G4.out.sp
      rw [e9] at h9
      exact ⟨rfl, f9, G, _, h9, G3.out.al, G3.out.nw, HG4.out, HSz.out, G4.out.off, G4.out.k⟩
end Go.Proofs.YtibbinenhmiclaaDoor

namespace Go.Proofs.YtibbinenhmiclaaDoor
open Go.RowKit

theorem sp_38 {m : SpM} (h : m.seed.length = 32) (C n : Nat) (g : GS) (mk : Int) : (spc m C n g mk)[38]? = some (.int .u32 g.done) := spc_tail h C n g mk 38 (by omega)
theorem sp_39 {m : SpM} (h : m.seed.length = 32) (C n : Nat) (g : GS) (mk : Int) : (spc m C n g mk)[39]? = some (.int .i32 g.lk) := spc_tail h C n g mk 39 (by omega)
theorem spc_38 {m : SpM} (h : m.seed.length = 32) (C n : Nat) (g : GS) (mk x : Int) : (spc m C n g mk).set 38 (.int .u32 x) = spc m C n ⟨x, g.lk, g.v⟩ mk := by
  unfold spc
  rw [List.set_append_right (s := _) (t := _) 38 _ (by simp [h])]
  simp [h]
theorem spc_39 {m : SpM} (h : m.seed.length = 32) (C n : Nat) (g : GS) (mk x : Int) : (spc m C n g mk).set 39 (.int .i32 x) = spc m C n ⟨g.done, x, g.v⟩ mk := by
  unfold spc
  rw [List.set_append_right (s := _) (t := _) 39 _ (by simp [h])]
  simp [h]
theorem SpIs.turnS {w w' : World} {B S C : Nat} {m : SpM} {n : Nat} {f : Nat → Option Value} {g g' : GS} {mk mk' : Int} (h : SpIs w B S C m n f g mk) (hT : Turn S (.cells (spc m C n g' mk').toArray 88) w w') : SpIs w' B S C m n f g' mk' :=
  ⟨hT.blk, hT.keep h.c (Ne.symm h.ne), h.bs, h.bc, fun j u hj hu => ownsRow_turnS (h.el j u hj hu) hT h.s (by decide)⟩
/-- A spring with what is true of it at any time: so many ladders are reckoned; where there is a grove it is the grove of all, and its blocks are such. -/
structure SpG (w : World) (B S C : Nat) (m : SpM) (n k : Nat) (P : Nat → Prop) (f : Nat → Option Value) (gl : GS) : Prop where
  sp : SpIs w B S C m n f gl (cntF f n)
  ps : ¬ P S
  pc : ¬ P C
  g : gl = gs0 ∨ ∃ G, gl = ⟨1, 0, .pointer (some ⟨G, 0, none⟩)⟩ ∧ (∀ j, j < n → f j ≠ none) ∧ GroveIsS w P G m n k
theorem SpG.keep {w w' : World} {B S C : Nat} {m : SpM} {n k : Nat} {P : Nat → Prop} {f : Nat → Option Value} {gl : GS} (h : SpG w B S C m n k P f gl) (hb : Below w.heap.size w w') : SpG w' B S C m n k P f gl := by
  refine ⟨h.sp.keep hb, h.ps, h.pc, ?_⟩
  rcases h.g with e | ⟨G, e, h1, h2⟩
  · exact .inl e
  · exact .inr ⟨G, e, h1, h2.keep hb⟩
theorem SpG.low {w : World} {B S C : Nat} {m : SpM} {n k : Nat} {P : Nat → Prop} {f : Nat → Option Value} {gl : GS} (h : SpG w B S C m n k P f gl) : SpG w B S C m n k (fun x => P x ∧ x < w.heap.size) f gl := by
  refine ⟨h.sp, fun e => h.ps e.1, fun e => h.pc e.1, ?_⟩
  rcases h.g with e | ⟨G, e, h1, h2⟩
  · exact .inl e
  · exact .inr ⟨G, e, h1, h2.low⟩
/-- Another block turns, that is none of the spring's. -/
theorem SpG.turn {w w' : World} {B S C b : Nat} {m : SpM} {n k : Nat} {P : Nat → Prop} {f : Nat → Option Value} {gl : GS} {o : Obj} (h : SpG w B S C m n k P f gl) (hT : Turn b o w w') (hS : b ≠ S) (hC : b ≠ C) (hP : ¬ P b) (hv : ∀ i v k, i < n → f i = some v → v.ownBlock = some k → k ≠ b) : SpG w' B S C m n k P f gl := by
  refine ⟨h.sp.turn hT hS hC hv, h.ps, h.pc, ?_⟩
  rcases h.g with e | ⟨G, e, h1, h2⟩
  · exact .inl e
  · exact .inr ⟨G, e, h1, h2.turn hT hP⟩
set_option maxRecDepth 100000 in
set_option maxHeartbeats 8000000 in
theorem treeSp_any (m : SpM) (B S C n k : Nat) (P : Nat → Prop) (f : Nat → Option Value) (gl : GS) (w : World) (hk : KonIs w) (ho : SpOk m) (h : SpG w B S C m n k P f gl) (hb0 : 0 < B) (hbw : B ≤ w.heap.size) (hn : n = 2 ^ k) (hk6 : k ≤ 6) :
    Calls Tryd.prog 32 #[.pointer (some ⟨S, 0, none⟩)] w fun r w' => ∃ f' G P', r = .returned (.pointer (some ⟨G, 0, none⟩)) ∧ SpG w' B S C m n k P' f' ⟨1, 0, .pointer (some ⟨G, 0, none⟩)⟩ ∧ (∀ j, j < n → f' j ≠ none) ∧ (∀ j u kk, j < n → f' j = some u → u.ownBlock = some kk → f j = some u ∨ w.heap.size ≤ kk) ∧ GroveIsS w' P' G m n k ∧ (∀ x, P' x → P x ∨ w.heap.size ≤ x) ∧ Off B S C w w' ∧ KonIs w' := by
  obtain ⟨A, hA⟩ : ∃ A, A = w.heap.size := ⟨_, rfl⟩
  have HA := Kp.mk hA
  have HO := Kp.mk ho
  have HN := Kp.mk (And.intro hn hk6)
  have HB := Kp.mk (And.intro hb0 hbw)
  have HSA : Kp (S < A ∧ C < A ∧ B ≤ A) := ⟨by have := h.sp.s.lt; omega, by have := h.sp.c.lt; omega, by omega⟩
  have H1 : Kp (KonIs (w.alloc (.cells #[.pointer (some ⟨S, 0, none⟩)] 26)) ∧ SpG (w.alloc (.cells #[.pointer (some ⟨S, 0, none⟩)] 26)) B S C m n k P f gl ∧ Blk (w.alloc (.cells #[.pointer (some ⟨S, 0, none⟩)] 26)) A (.cells #[.pointer (some ⟨S, 0, none⟩)] 26) ∧ Off B S C w (w.alloc (.cells #[.pointer (some ⟨S, 0, none⟩)] 26)) ∧ A < (w.alloc (.cells #[.pointer (some ⟨S, 0, none⟩)] 26)).heap.size) :=
    ⟨hk.keep (more (Below.refl _ _) _), h.keep (more (Below.refl _ _) _), Blk.newAt _ hA, (Off.refl B S C w).more (more (Below.refl _ _) _) hbw, by simp [hA]⟩
  clear hk ho h hb0 hbw hn hk6
  go_enter Tryd.func32, Tryd.ntmps32
  go_wp2_with fail
  rw [← hA]
  clear hA
  generalize w.alloc (.cells #[.pointer (some ⟨S, 0, none⟩)] 26) = W at *
  have y0 : W.cell? ⟨A, 0, none⟩ = some (.pointer (some ⟨S, 0, none⟩)) := H1.out.2.2.1.cell 0
  have hmf : ∀ (fn : Fn) (first cap : Array Value) (w : World), (Instr.makeFunc fn first cap).run Tryd.prog w = .ok (.func fn first cap) w := fun _ _ _ _ => rfl
  rcases H1.out.2.1.g with e | ⟨G, e, h1, h2⟩
  · subst e
    have HG := Kp.mk (And.intro H1.out.2.1.sp H1.out.2.2)
    go_wp2_with fail
    refine (do_first 45 #[.pointer (some ⟨A, 0, none⟩)] (fun w => by rfl) S 38 W (fun w1 => ∃ f' G D, SpIs w1 B S C m n f' ⟨0, 1, .pointer (some ⟨G, 0, none⟩)⟩ n ∧ (∀ j, j < n → f' j ≠ none) ∧ (∀ j u kk, j < n → f' j = some u → u.ownBlock = some kk → f j = some u ∨ w.heap.size ≤ kk) ∧ GroveIsS w1 (fun x => D ≤ x) G m n k ∧ A < D ∧ Off B S C w w1 ∧ KonIs w1 ∧ Blk w1 A (.cells #[.pointer (some ⟨S, 0, none⟩)] 26)) ?_ ?_ (HG.out.1.s.frozen 38) (HG.out.1.s.frozen 39) ?_ ?_).mono ?_
    · exact (HG.out.1.s.cell 38).trans (by rw [List.getElem?_toArray]; exact sp_38 HO.out.l C n gs0 _)
    · exact (HG.out.1.s.cell 39).trans (by rw [List.getElem?_toArray]; exact sp_39 HO.out.l C n gs0 _)
    · have hT : Turn S (.cells (spc m C n ⟨0, 1, .pointer none⟩ (cntF f n)).toArray 88) W (W.setCell ⟨S, 38 + 1, none⟩ (.int .i32 1)) := ((Turn.same HG.out.1.s).set 39 _).as (by rw [List.setIfInBounds_toArray, spc_39 HO.out.l]; rfl)
      have hS0 := HG.out.1.bs
      have hb := HB.out
      have hsa := HSA.out
      have hAW := HG.out.2.2.2
      have hoff := HG.out.2.2.1.turn hT (.inl rfl) HG.out.1.bs (by omega)
      have hA2 := hT.keep HG.out.2.1 (by omega)
      refine (plant_any m B A S C n k ⟨0, 1, .pointer none⟩ f _ (H1.out.1.turn hT (by omega)) HO.out (HG.out.1.turnS hT) hA2 hb.1 (Nat.le_trans hb.2 hoff.b.size) hsa.1 hsa.2.1 HN.out.1 HN.out.2).mono ?_
      rintro r w1 ⟨rfl, f', G, D, h1, h2, hnw, h3, h4, h5, h6⟩
      exact ⟨rfl, f', G, D, h1, h2, fun j u kk hj hu hk => (hnw j u kk hj hu hk).imp_right (Nat.le_trans hoff.b.size), h3, Nat.lt_of_lt_of_le hA2.lt h4, hoff.trans h5, h6, h5.blk hA2 (by omega) (by omega)⟩
    · rintro w1 ⟨f', G, D, h1, -⟩
      exact ⟨(h1.s.cell 38).trans (by rw [List.getElem?_toArray]; exact sp_38 HO.out.l C n _ _), (h1.s.cell 39).trans (by rw [List.getElem?_toArray]; exact sp_39 HO.out.l C n _ _), h1.s.frozen 38, h1.s.frozen 39⟩
    · rintro r w2 ⟨rfl, w1, ⟨f', G, D, h1, h2, hnw, h3, h4, h5, h6, h7⟩, rfl⟩
      have HNW := Kp.mk hnw
      have HDA : Kp (w.heap.size ≤ D) := ⟨by have := HA.out; omega⟩
      have hT : Turn S (.cells (spc m C n ⟨1, 0, .pointer (some ⟨G, 0, none⟩)⟩ (cntF f' n)).toArray 88) w1 ((w1.drew.setCell ⟨S, 38, none⟩ (.int .u32 1)).setCell ⟨S, 38 + 1, none⟩ (.int .i32 0)) := (((Turn.same h1.s).drew.set 38 (.int .u32 1)).set 39 (.int .i32 0)).as (by rw [List.setIfInBounds_toArray, List.setIfInBounds_toArray, spc_38 HO.out.l, spc_39 HO.out.l, cntF_all h2])
      have hsa := HSA.out
      have hb := HB.out
      have hs0 := h1.bs
      have hw1 := h5.b.size
      have hg3 : GroveIsS ((w1.drew.setCell ⟨S, 38, none⟩ (.int .u32 1)).setCell ⟨S, 38 + 1, none⟩ (.int .i32 0)) (fun x => D ≤ x) G m n k := ((Off.refl B S C w1).turn hT (.inl rfl) hs0 (by omega)).grove h3 (by omega) (by omega)
      have G2 : Kp (SpG ((w1.drew.setCell ⟨S, 38, none⟩ (.int .u32 1)).setCell ⟨S, 38 + 1, none⟩ (.int .i32 0)) B S C m n k (fun x => D ≤ x) f' ⟨1, 0, .pointer (some ⟨G, 0, none⟩)⟩ ∧ (∀ j, j < n → f' j ≠ none) ∧ GroveIsS ((w1.drew.setCell ⟨S, 38, none⟩ (.int .u32 1)).setCell ⟨S, 38 + 1, none⟩ (.int .i32 0)) (fun x => D ≤ x) G m n k ∧ Off B S C w ((w1.drew.setCell ⟨S, 38, none⟩ (.int .u32 1)).setCell ⟨S, 38 + 1, none⟩ (.int .i32 0)) ∧ KonIs ((w1.drew.setCell ⟨S, 38, none⟩ (.int .u32 1)).setCell ⟨S, 38 + 1, none⟩ (.int .i32 0)) ∧ Blk ((w1.drew.setCell ⟨S, 38, none⟩ (.int .u32 1)).setCell ⟨S, 38 + 1, none⟩ (.int .i32 0)) A (.cells #[.pointer (some ⟨S, 0, none⟩)] 26)) :=
        ⟨⟨h1.turnS hT, by omega, by omega, .inr ⟨G, rfl, h2, hg3⟩⟩, h2, hg3, h5.turn hT (.inl rfl) hs0 (by omega), h6.turn hT (by omega), hT.keep h7 (by omega)⟩
      clear h1 h2 hnw h3 h4 h5 h6 h7 hT hsa hb hs0 hw1 hg3 HG H1 y0
      generalize (w1.drew.setCell ⟨S, 38, none⟩ (.int .u32 1)).setCell ⟨S, 38 + 1, none⟩ (.int .i32 0) = w3 at *
      have y0 : w3.cell? ⟨A, 0, none⟩ = some (.pointer (some ⟨S, 0, none⟩)) := G2.out.2.2.2.2.2.cell 0
      have y1 : w3.cell? ⟨S, 41, none⟩ = some (.pointer (some ⟨G, 0, none⟩)) := (G2.out.1.sp.s.cell 41).trans (by rw [List.getElem?_toArray]; exact sp_41 HO.out.l C n _ _)
      go_wp2_with fail
      go_ret
      exact ⟨f', G, _, rfl, G2.out.1, G2.out.2.1, HNW.out, G2.out.2.2.1, (fun x hx => .inr (Nat.le_trans HDA.out hx)), G2.out.2.2.2.1, G2.out.2.2.2.2.1⟩
  · subst e
    have HG := Kp.mk (And.intro h1 (And.intro h2 trivial))
    have hd : W.cell? ⟨S, 38, none⟩ = some (.int .u32 1) := (H1.out.2.1.sp.s.cell 38).trans (by rw [List.getElem?_toArray]; exact sp_38 HO.out.l C n _ _)
    have y1 : W.cell? ⟨S, 41, none⟩ = some (.pointer (some ⟨G, 0, none⟩)) := (H1.out.2.1.sp.s.cell 41).trans (by rw [List.getElem?_toArray]; exact sp_41 HO.out.l C n _ _)
    clear h1 h2
    go_wp2_with fail
    refine (do_done ⟨S, 38, none⟩ 1 (by decide) _ W hd).mono ?_
    rintro r w2 ⟨rfl, rfl⟩
    go_wp2_with fail
    go_ret
    exact ⟨f, G, P, rfl, H1.out.2.1, HG.out.1, (fun _ _ _ _ h _ => .inl h), HG.out.2.1, (fun _ h => .inl h), H1.out.2.2.2.1, H1.out.1⟩
end Go.Proofs.YtibbinenhmiclaaDoor

namespace Go.Proofs.YtibbinenhmiclaaDoor
open Go.RowKit

abbrev mA : SpM := ⟨2, 3, 1, 0, 0, List.replicate 32 0⟩
theorem okA : SpOk mA := ⟨by decide, by decide, by decide, by decide, by decide, rfl, by intro x hx; rw [List.eq_of_mem_replicate hx]; decide⟩
set_option maxRecDepth 100000 in
set_option maxHeartbeats 4000000 in
theorem awakeSp_any (w : World) (hk : KonIs w) : Calls Tryd.prog 12 #[] w fun r w' => r = .returned (.bool true) ∧ Below w.heap.size w w' := by
  have HK := Kp.mk hk
  clear hk
  go_enter Tryd.func12, Tryd.ntmps12
  go_wp2_with fail
  refine (new_ok mA 2 w okA rfl).mono ?_
  rintro r w1 ⟨S, C, rfl, h1, h2⟩
  have HS := Kp.mk h1
  have HB := Kp.mk h2
  clear h1 h2
  go_wp2_with fail
  refine (made_any mA _ S C 2 _ gs0 0 w1 okA HS.out).mono ?_
  rintro r w2 ⟨rfl, rfl⟩
  go_wp2_with fail
  refine (element_bad mA _ S C 2 _ gs0 0 0 9 w2 okA HS.out (by decide)).mono ?_
  rintro r w3 ⟨rfl, h3⟩
  have HS3 := Kp.mk (HS.out.keep h3)
  have HB3 : Kp (Below w.heap.size w w3) := ⟨HB.out.trans (h3.mono HB.out.size)⟩
  clear h3 HS
  go_wp2_with (refine wpList_store_row rfl 43 (.tmp 3) (.tmp 27) rfl w3.heap.size (kv .u8 zeroS).toArray rfl rfl 43 _ (Blk.new w3 z50) (cells50 (l := zeroS) rfl) rfl (kv_all _ _) ?_)
  have hb4 : Below w3.heap.size w3 ((w3.alloc z50).setRow w3.heap.size (kv .u8 zeroS).toArray) := Below.row (more (Below.refl _ _) z50) (Nat.le_refl _) _
  refine calls_world (fun W => SpIs W w.heap.size S C mA 2 (fun _ => none) gs0 0 ∧ Below w.heap.size w W ∧ KonIs W) ⟨HS3.out.keep hb4, HB3.out.trans (hb4.mono HB3.out.size), HK.out.keep (HB3.out.trans (hb4.mono HB3.out.size))⟩ ?_
  clear hb4
  rintro w4 ⟨h1, h2, h3⟩
  have HS4 := Kp.mk h1
  have HB4 := Kp.mk h2
  have HK4 := Kp.mk h3
  clear h1 h2 h3 HS3 HB3
  refine (element_ok mA w.heap.size S C 2 (fun _ => none) gs0 0 1 2 w4 HK4.out okA HS4.out HK.out.pos HB4.out.size (by decide) (by decide) (by decide) (by decide)).mono ?_
  rintro r w5 ⟨v, f', mk', rfl, h1, -, -, h2, h3, h4⟩
  obtain ⟨-, rfl⟩ := h2 rfl
  have HS5 := Kp.mk h1
  have HB5 : Kp (Below w.heap.size w w5) := ⟨HB4.out.trans h3.b⟩
  clear h1 h2 h3 h4 HS4 HB4 HK4
  have HZ := Kp.mk (elR_len mA 1 2)
  have hb6 : Below w5.heap.size w5 ((w5.alloc z50).setRow w5.heap.size (kv .u8 (elR mA 1 2)).toArray) := Below.row (more (Below.refl _ _) z50) (Nat.le_refl _) _
  have HS6 := Kp.mk (HS5.out.keep hb6)
  have HB6 : Kp (Below w.heap.size w ((w5.alloc z50).setRow w5.heap.size (kv .u8 (elR mA 1 2)).toArray)) := ⟨HB5.out.trans (hb6.mono HB5.out.size)⟩
  clear hb6 HS5 HB5
  obtain ⟨x, hx⟩ : ∃ x, x = elR mA 1 2 := ⟨_, rfl⟩
  have e9 : elR mA (1 : Nat) 2 = x := hx.symm
  rw [← hx] at HZ HS6 HB6
  rw [e9]
  clear hx e9
  go_wp2_with (refine wpList_store_row rfl 43 (.tmp 5) (.tmp 32) rfl w5.heap.size (kv .u8 x).toArray rfl rfl 43 _ (Blk.new w5 z50) (cells50 HZ.out) (size50 HZ.out) (kv_all _ _) ?_)
  refine (made_any mA _ S C 2 _ gs0 _ _ okA HS6.out).mono ?_
  rintro r w7 ⟨rfl, rfl⟩
  go_wp2_with fail
  go_ret
  exact ⟨rfl, HB6.out⟩
end Go.Proofs.YtibbinenhmiclaaDoor

namespace Go.Proofs.YtibbinenhmiclaaDoor
open Go.RowKit

theorem eqz43 (w : World) : (Op.equalIn 10000 43 (.agg #[.int .u8 0, .int .u8 0, .int .u8 0, .int .u8 0, .int .u8 0, .int .u8 0, .int .u8 0, .int .u8 0, .int .u8 0, .int .u8 0, .int .u8 0, .int .u8 0, .int .u8 0, .int .u8 0, .int .u8 0, .int .u8 0]) (.agg #[.int .u8 0, .int .u8 0, .int .u8 0, .int .u8 0, .int .u8 0, .int .u8 0, .int .u8 0, .int .u8 0, .int .u8 0, .int .u8 0, .int .u8 0, .int .u8 0, .int .u8 0, .int .u8 0, .int .u8 0, .int .u8 0])).run Tryd.prog w = .ok true w :=
  eqIn50 (p := List.replicate 16 0) (by intro x hx; rw [List.eq_of_mem_replicate hx]; decide) rfl w
set_option maxRecDepth 100000 in
set_option maxHeartbeats 4000000 in
theorem springNil_any (q r : Int) (w : World) (hk : KonIs w) : Calls Tryd.prog 5 #[.int .i64 q, .int .i64 r] w fun e w' => e = .returned (.bool true) ∧ Below w.heap.size w w' := by
  have HK := Kp.mk hk
  clear hk
  go_enter Tryd.func5, Tryd.ntmps5
  go_wp2_with fail
  refine (elementSp_nil q r w).mono ?_
  rintro e w1 ⟨rfl, h1⟩
  have HB1 := Kp.mk h1
  clear h1
  have hb2 : Below w1.heap.size w1 ((w1.alloc z50).setRow w1.heap.size (kv .u8 zeroS).toArray) := Below.row (more (Below.refl _ _) z50) (Nat.le_refl _) _
  have HB2 : Kp (Below w.heap.size w ((w1.alloc z50).setRow w1.heap.size (kv .u8 zeroS).toArray)) := ⟨HB1.out.trans (hb2.mono HB1.out.size)⟩
  clear hb2
  go_wp2_with (refine wpList_store_row rfl 43 (.tmp 6) (.tmp 15) rfl w1.heap.size (kv .u8 zeroS).toArray rfl rfl 43 _ (Blk.new w1 z50) (cells50 (l := zeroS) rfl) rfl (kv_all _ _) ?_)
  refine calls_world (fun W => Below w.heap.size w W) HB2.out ?_
  intro w2 h2
  have HB := Kp.mk h2
  clear h2 HB1 HB2
  refine (pathSp_nil q w2).mono ?_
  rintro e w3 ⟨rfl, rfl⟩
  go_wp2_with fail
  refine (awakeSp_any w3 (HK.out.keep HB.out)).mono ?_
  rintro e w4 ⟨rfl, h4⟩
  have HB4 : Kp (Below w.heap.size w w4) := ⟨HB.out.trans (h4.mono HB.out.size)⟩
  clear h4 HB
  go_wp2_with fail
  refine (rootSp_nil w4).mono ?_
  rintro e w5 ⟨rfl, h5⟩
  have HB5 : Kp (Below w.heap.size w w5) := ⟨HB4.out.trans (h5.mono HB4.out.size)⟩
  clear h5 HB4
  have hz := eqz43 w5
  go_wp2_with fail
  clear hz
  refine (made_nil w5).mono ?_
  rintro e w6 ⟨rfl, rfl⟩
  go_wp2_with fail
  refine (rules_nil w6).mono ?_
  rintro e w7 ⟨rfl, h7⟩
  have HB7 : Kp (Below w.heap.size w w7) := ⟨HB5.out.trans (h7.mono HB5.out.size)⟩
  clear h7 HB5
  go_wp2_with fail
  go_ret
  exact ⟨rfl, HB7.out⟩
theorem springNil_walk (x0 x1 : Int) (w : World) (_w0 : (Lit.int .i64 x0).wf = true) (_w1 : (Lit.int .i64 x1).wf = true) (hk : KonIs w) : Calls Tryd.prog 5 #[.int .i64 x0, .int .i64 x1] w fun r w' => r = .returned (.bool true) ∧ Below w.heap.size w w' := springNil_any x0 x1 w hk
end Go.Proofs.YtibbinenhmiclaaDoor

namespace Go.Proofs.YtibbinenhmiclaaDoor
open Go.RowKit

set_option maxHeartbeats 1600000 in
theorem rrightR_any (wd st ht : Int) (w : World) :
    Calls Tryd.prog 11 #[.agg #[.int .i64 wd, .int .i64 st, .int .i64 ht]] w fun r w' => r = .returned (.bool (rightR wd st ht)) ∧ Below w.heap.size w w' := by
  have hl := lev_range wd
  have HR : Kp (rightR wd st ht = (decide (0 ≤ lev wd) && decide ((1 ≤ st ∧ st ≤ 16) ∧ 0 ≤ ht ∧ ht ≤ 6))) := ⟨rfl⟩
  go_enter Tryd.func11, Tryd.ntmps11
  go_wp2_with fail
  refine (rlevels_any wd _).mono ?_
  rintro r w1 ⟨rfl, rfl⟩
  generalize lev wd = lv at *
  go_wp2_with fail
  all_goals (go_ret; refine ⟨retb (by rw [HR.out]; refine (Bool.eq_iff_iff.2 ?_); simp only [Bool.and_eq_true, decide_eq_true_eq, Bool.false_eq_true, false_iff]; omega), more (Below.refl _ _) _⟩)
/-- May there be a spring? -/
def fitR (m : SpM) : Bool := rightR m.wd m.st m.ht && decide ((0 ≤ m.d ∧ m.d < m.wd) ∧ m.e ≤ 65536)
theorem fitR_ok {m : SpM} (h : fitR m = true) (he : 0 ≤ m.e) (hl : m.seed.length = 32) (hb : Bytes m.seed) : SpOk m := by
  unfold fitR rightR at h
  simp only [Bool.and_eq_true, decide_eq_true_eq] at h
  obtain ⟨⟨h1, h2, h3⟩, h4, h5⟩ := h
  exact ⟨h1, h2, h3, h4, ⟨he, h5⟩, hl, hb⟩
set_option maxRecDepth 100000 in
theorem toSp_any (a b c : Int) (w : World) : Calls Tryd.prog 8 #[.agg #[.int .i64 a, .int .i64 b, .int .i64 c]] w fun r w' => r = .returned (.agg #[.int .i64 a, .int .i64 b, .int .i64 c]) ∧ Below w.heap.size w w' := by
  go_enter Tryd.func8, Tryd.ntmps8
  go_wp2_with fail
  refine bodyPost_ret (v := .agg #[.int .i64 a, .int .i64 b, .int .i64 c]) (results_cell_row rfl _ _ (w.heap.size + 1) 30 _ (0, 0) _ rfl (Blk.newAt _ (by simp)) Tryd.underlying30 rfl info30s) rfl ⟨rfl, ?_⟩
  exact more (more (Below.refl _ _) _) _
set_option maxRecDepth 100000 in
set_option maxHeartbeats 1600000 in
theorem fitsR_any (m : SpM) (w : World) :
    Calls Tryd.prog 9 #[.agg #[.int .i64 m.wd, .int .i64 m.st, .int .i64 m.ht], .int .i64 m.d, .int .u32 m.e] w fun r w' => r = .returned (.bool (fitR m)) ∧ Below w.heap.size w w' := by
  have HF : Kp (fitR m = (rightR m.wd m.st m.ht && decide ((0 ≤ m.d ∧ m.d < m.wd) ∧ m.e ≤ 65536))) := ⟨rfl⟩
  go_enter Tryd.func9, Tryd.ntmps9
  go_wp2_with fail
  refine (rrightR_any m.wd m.st m.ht _).mono ?_
  rintro r w1 ⟨rfl, h1⟩
  have q0 : w1.cell? ⟨w.heap.size, 0, none⟩ = some (.int .i64 m.wd) := (Blk.keep (Blk.new w (.cells #[.int .i64 m.wd, .int .i64 m.st, .int .i64 m.ht] 23)) h1).cell 0
  have HB : Kp (Below w.heap.size w w1) := ⟨(more (Below.refl _ _) _).trans (h1.mono (by simp))⟩
  clear h1
  cases hr : rightR m.wd m.st m.ht
  all_goals rw [hr] at HF
  all_goals clear hr
  all_goals go_wp2_with fail
  all_goals (go_ret; refine ⟨retb (by rw [HF.out]; refine (Bool.eq_iff_iff.2 ?_); simp only [Bool.true_and, Bool.false_and, decide_eq_true_eq, Bool.false_eq_true, false_iff]; try omega), HB.out⟩)
set_option maxRecDepth 100000 in
set_option maxHeartbeats 4000000 in
theorem new_bad (m : SpM) (w : World) (hl : m.seed.length = 32) (hf : fitR m = false) :
    Calls Tryd.prog 7 #[.agg #[.int .i64 m.wd, .int .i64 m.st, .int .i64 m.ht], .agg (bv m.seed).toArray, .int .i64 m.d, .int .u32 m.e] w fun r w' => r = .returned (.tuple #[.pointer none, .int .i64 1]) ∧ Below w.heap.size w w' := by
  have HL := Kp.mk hl
  have HF : Kp ((rightR m.wd m.st m.ht && decide ((0 ≤ m.d ∧ m.d < m.wd) ∧ m.e ≤ 65536)) = false) := ⟨hf⟩
  have hC := fun (w : World) => box_row (t := 70) (cs := bv m.seed) (info70s HL.out) w
  obtain ⟨A, hA⟩ : ∃ A, A = w.heap.size := ⟨_, rfl⟩
  have HAe := Kp.mk hA
  have HB : Kp (Blk ((w.alloc (.cells #[.int .i64 m.wd, .int .i64 m.st, .int .i64 m.ht] 30)).alloc (.cells (bv m.seed).toArray 70)) A (.cells #[.int .i64 m.wd, .int .i64 m.st, .int .i64 m.ht] 30) ∧ Below A w ((w.alloc (.cells #[.int .i64 m.wd, .int .i64 m.st, .int .i64 m.ht] 30)).alloc (.cells (bv m.seed).toArray 70)) ∧ A ≤ ((w.alloc (.cells #[.int .i64 m.wd, .int .i64 m.st, .int .i64 m.ht] 30)).alloc (.cells (bv m.seed).toArray 70)).heap.size) := ⟨(Blk.newAt _ hA).old _, by rw [hA]; exact more (more (Below.refl _ _) _) _, by simp [hA]; omega⟩
  clear hf hl
  go_enter Tryd.func7, Tryd.ntmps7
  go_wp2_with (refine wpList_box_eq rfl 70 (.tmp 1) rfl _ rfl _ _ (hC _) ?_)
  rw [← hA]
  clear hC hA
  generalize (w.alloc (.cells #[.int .i64 m.wd, .int .i64 m.st, .int .i64 m.ht] 30)).alloc (.cells (bv m.seed).toArray 70) = W at *
  refine (rightR_any m.wd m.st m.ht W).mono ?_
  rintro r w1 ⟨rfl, hb⟩
  have HB1 : Kp (Below w.heap.size w w1) := ⟨by rw [← HAe.out]; exact HB.out.2.1.trans (hb.mono HB.out.2.2)⟩
  have q0 : w1.cell? ⟨A, 0, none⟩ = some (.int .i64 m.wd) := (HB.out.1.keep hb).cell 0
  clear hb HB
  cases hr : rightR m.wd m.st m.ht
  · clear hr HF
    go_wp2_with fail
    go_ret2
    exact ⟨rfl, HB1.out⟩
  · rw [hr] at HF
    clear hr
    have hn : ¬ ((0 ≤ m.d ∧ m.d < m.wd) ∧ m.e ≤ 65536) := by have := HF.out; simpa using this
    clear HF
    by_cases h0 : m.d < 0
    · have hd : decide (m.d < 0) = true := decide_eq_true h0
      clear hn h0
      go_wp2_with fail
      go_ret2
      exact ⟨rfl, HB1.out⟩
    · have hd : decide (m.d < 0) = false := decide_eq_false h0
      by_cases h1 : m.wd ≤ m.d
      · have hd1 : decide (m.wd ≤ m.d) = true := decide_eq_true h1
        clear hn h0 h1
        go_wp2_with fail
        go_ret2
        exact ⟨rfl, HB1.out⟩
      · have hd1 : decide (m.wd ≤ m.d) = false := decide_eq_false h1
        have hd2 : decide (65536 < m.e) = true := decide_eq_true (by omega)
        clear hn h0 h1
        go_wp2_with fail
        go_ret2
        exact ⟨rfl, HB1.out⟩
end Go.Proofs.YtibbinenhmiclaaDoor

namespace Go.Proofs.YtibbinenhmiclaaDoor
open Go.RowKit

set_option maxRecDepth 100000 in
set_option maxHeartbeats 4000000 in
theorem rootSp_any (m : SpM) (B S C n k : Nat) (P : Nat → Prop) (f : Nat → Option Value) (gl : GS) (w : World) (hk : KonIs w) (ho : SpOk m) (h : SpG w B S C m n k P f gl) (hb0 : 0 < B) (hbw : B ≤ w.heap.size) (hn : n = 2 ^ k) (hk6 : k ≤ 6) :
    Calls Tryd.prog 17 #[.pointer (some ⟨S, 0, none⟩)] w fun r w' => ∃ f' gl' P', r = .returned (dgV (nodeG m.d m.e (endsL m n) k 0)) ∧ SpG w' B S C m n k P' f' gl' ∧ (∀ j, j < n → f' j ≠ none) ∧ (∀ x, P' x → P x ∨ w.heap.size ≤ x) ∧ Off B S C w w' ∧ KonIs w' := by
  obtain ⟨A, hA⟩ : ∃ A, A = w.heap.size := ⟨_, rfl⟩
  have HA := Kp.mk hA
  have HO := Kp.mk ho
  have HN := Kp.mk (And.intro hn hk6)
  have HB := Kp.mk (And.intro hb0 hbw)
  have H0 : Kp (Row (w.alloc z50) A 43 .u8 zeroS ∧ SpG (w.alloc z50) B S C m n k (fun x => P x ∧ x < w.heap.size) f gl ∧ Below A w (w.alloc z50) ∧ KonIs (w.alloc z50)) := ⟨Blk.newAt _ hA, h.low.keep (more (Below.refl _ _) _), by rw [hA]; exact more (Below.refl _ _) _, hk.keep (more (Below.refl _ _) _)⟩
  have HSA : Kp (A ≠ S ∧ A ≠ C) := ⟨by have := h.sp.s.lt; omega, by have := h.sp.c.lt; omega⟩
  have HOLD : Kp (∀ j u kk, j < n → f j = some u → u.ownBlock = some kk → kk ≠ A) := ⟨fun j u kk hj hu hkk => by have := ((h.sp.el j u hj hu).lt kk hkk).2; omega⟩
  clear hk ho h hb0 hbw hn hk6
  go_enter Tryd.func17, Tryd.ntmps17
  go_wp2_with fail
  rw [← hA]
  clear hA
  refine calls_world (fun W => Row W A 43 .u8 zeroS ∧ SpG W B S C m n k (fun x => P x ∧ x < w.heap.size) f gl ∧ Below A w W ∧ KonIs W) H0.out ?_
  rintro w1 ⟨h1, h2, h3, h4⟩
  have HR := Kp.mk h1
  have HBl := Kp.mk h3
  have HB1 : Kp (B ≤ w1.heap.size) := ⟨Nat.le_trans HB.out.2 h3.size⟩
  clear H0
  refine (treeSp_any m B S C n k _ f gl w1 h4 HO.out h2 HB.out.1 HB1.out HN.out.1 HN.out.2).mono ?_
  clear h1 h2 h3 h4
  rintro e w3 ⟨f', G, P', rfl, h1, h2, hnw, h3, hpp, h5, h6⟩
  have HPP := Kp.mk hpp
  have HNW := Kp.mk hnw
  have HF1 := Kp.mk h1
  have HF2 := Kp.mk h2
  have HGr := Kp.mk h3
  have HOf := Kp.mk h5
  have HK := Kp.mk h6
  clear h1 h2 hnw h3 hpp h5 h6
  go_wp2_with fail
  refine (rootG_any m.d m.e (endsL m n) k G w3 (by rw [endsL_len, HN.out.1]) HN.out.2 HGr.out.at).mono ?_
  rintro e w4 ⟨rfl, h7⟩
  have HOf4 : Kp (Off B S C w w4) := ⟨(((Off.of HBl.out HA.out (by have := HB.out.2; have := HA.out; omega)).trans HOf.out).more h7 (by have := HOf.out.b.size; have := HB1.out; omega))⟩
  have HR4 : Kp (Row w4 A 43 .u8 zeroS) := ⟨(HOf.out.blk HR.out HSA.out.1 HSA.out.2).keep h7⟩
  have HS4 : Kp (SpG w4 B S C m n k P' f' ⟨1, 0, .pointer (some ⟨G, 0, none⟩)⟩) := ⟨HF1.out.keep h7⟩
  have HG4 : Kp (GroveIsS w4 P' G m n k) := ⟨HGr.out.keep h7⟩
  have HK4 : Kp (KonIs w4) := ⟨HK.out.keep h7⟩
  obtain ⟨x, hx⟩ : ∃ x, x = nodeG m.d m.e (endsL m n) k 0 := ⟨_, rfl⟩
  have HX := Kp.mk hx
  have HZ : Kp (x.length = 16) := ⟨by rw [hx]; exact nodeG_len (endsL_len m n) k 0 (by rw [HN.out.1]; omega)⟩
  rw [← hx]
  clear h7 hx
  have hT := Turn.ofRowS HR4.out (kv .u8 x).toArray
  have HF := Kp.mk (HR4.out.setRow x)
  have HO9 : Kp (Off B S C w (w4.setRow A (kv .u8 x).toArray)) := ⟨HOf4.out.new hT (by rw [HA.out]; exact Nat.le_refl _) HB.out.2⟩
  have HK9 : Kp (KonIs (w4.setRow A (kv .u8 x).toArray)) := ⟨HK4.out.turn hT (by have := HB.out; have := HA.out; omega)⟩
  have hne : ∀ j u kk, j < n → f' j = some u → u.ownBlock = some kk → kk ≠ A := fun j u kk hj hu hkk => by
    rcases HNW.out j u kk hj hu hkk with h | h
    · exact HOLD.out j u kk hj h hkk
    · have := HR.out.lt; omega
  have hPA : ¬ P' A := fun e => by
    rcases HPP.out A e with h | h
    · have := h.2; have := HA.out; omega
    · have := HR.out.lt; omega
  have HS9 : Kp (SpG (w4.setRow A (kv .u8 x).toArray) B S C m n k P' f' ⟨1, 0, .pointer (some ⟨G, 0, none⟩)⟩) := ⟨HS4.out.turn hT HSA.out.1 HSA.out.2 hPA hne⟩
  have HP9 : Kp (∀ y, P' y → P y ∨ w.heap.size ≤ y) := ⟨fun y hy => (HPP.out y hy).elim (fun h => .inl h.1) (fun h => .inr (Nat.le_trans HBl.out.size h))⟩
  clear hT hne hPA
  go_wp2_with (refine wpList_store_row rfl 43 (.tmp 2) (.tmp 8) rfl A (kv .u8 x).toArray rfl rfl 43 _ HR4.out (cells50 HZ.out) (size50 HZ.out) (kv_all _ _) ?_)
  refine bodyPost_ret (v := dgV x) ?_ rfl ⟨f', _, P', by rw [HX.out], HS9.out, HF2.out, HP9.out, HO9.out, HK9.out⟩
  exact results_cell_row rfl _ _ A 43 (kv .u8 x).toArray (0, 0) _ rfl HF.out Tryd.underlying43 rfl (cells50 HZ.out)
end Go.Proofs.YtibbinenhmiclaaDoor
