/-
  The document's Below.
-/
import Derived.Test.YtpljjmdkagbjpaaDoorOd16
import Derived.Deep.RegionHeld3
namespace Go.Proofs.YtpljjmdkagbjpaaDoor
open Go.RowKit

theorem cut1 {P : Program} {c : Code} {Q : Exit → Act → World → Prop} {a : Act} {w : World} (F : Nat → Nat → World → Prop) (p : Nat → Nat → Act → Act)
    (h1 : c.wp P (fun e a' w' => e = .normal ∧ ∃ g4 g5, a' = p g4 g5 a ∧ F g4 g5 w') a w) (h2 : ∀ g4 g5 w', F g4 g5 w' → Q .normal (p g4 g5 a) w') : c.wp P Q a w :=
  Code.wp_mono (fun e a' w' ⟨he, g4, g5, ha, hf⟩ => by subst he; subst ha; exact h2 g4 g5 w' hf) h1
theorem new_row51 (w : World) {B : Nat} (h : B < w.heap.size) : ∃ g, g = w.heap.size ∧ Row (w.alloc (.cells (kv .u8 (List.replicate 68 0)).toArray 51)) g 51 .u8 (List.replicate 68 0) ∧ B < g ∧ True := ⟨_, rfl, Blk.new _ _, h, trivial⟩
theorem wp_alloc_row51 {P : Program} {o : Oper} {a : Act} {w : World} {K : Act → World → Prop} {Q : Exit → Act → World → Prop} (t : TypeId) (ho : o.op = .alloc t) (cs : Array Value) (n : Nat) (hi : (P.info? t).map (fun i => (i.zero, i.size)) = some (some (.agg cs), n))
    (h : K (a.put o.dst (.pointer (some ⟨w.heap.size, 0, none⟩))) (w.alloc (.cells cs t))) : o.wp P a w K Q := by
  unfold Oper.wp execOp
  simp only [ho, Sem.run_bind, alloc_row hi, Result.andThen_ok, Sem.run_pure]
  exact h
theorem wp_assign_endD {P : Program} {o : Oper} {a : Act} {w : World} {K : Act → World → Prop} {Q : Exit → Act → World → Prop} {d : Option Tmp} {x : Operand} {v : Value} (hd : o.dst = d) (ho : o.op = .assign x) (hx : a.eval x = v) (h : K (a.put d v) w) : o.wp P a w K Q := by
  subst hd
  exact wp_assign_end ho hx h
theorem wp_store_rowD {P : Program} {o : Oper} {a : Act} {w : World} {K : Act → World → Prop} {Q : Exit → Act → World → Prop} (hd : o.dst = none) (ty : TypeId) (x y : Operand) (ho : o.op = .store ty x y)
    (g : Nat) (cells : Array Value) (hx : a.eval x = .pointer (some ⟨g, 0, none⟩)) (hy : a.eval y = .agg cells) (t : TypeId) (cs : Array Value) (hg : w.heap[g]? = some (.cells cs t (0, 0)))
    (hi : (P.info? ty).map (·.size) = some cells.size) (hs : cs.size = cells.size) (h1 : cells.all (·.oneCell') = true) (h : K a (w.setRow g cells)) : o.wp P a w K Q := by
  refine wp_store_row ty x y ho g cells hx hy t cs hg hi hs h1 ?_
  rw [hd]
  exact h
/-- Some link is the key's own one, below where the signature has that chain. -/
def BelowP (s : List Int) (d x : Int) (m g S : List Int) : Prop := ∃ c, c < 68 ∧ dgt m c < dgt g c ∧ ownS s d x c (dgt m c) = linkAt S c
def BoolPost (P : Prop) (w : World) (q : Ending) (w' : World) : Prop := ∃ b : Bool, q = .returned (.bool b) ∧ (b = true ↔ P) ∧ Below w.heap.size w w'
set_option maxRecDepth 100000 in
set_option maxHeartbeats 32000000 in
theorem below_any (s : List Int) (d x : Int) (m g S : List Int) (w : World) (hx : 0 ≤ x ∧ x < 4294967296) (hs : s.length = 32) (hsb : Bytes s) (hm : m.length = 16) (hmb : Bytes m) (hg : g.length = 16) (hgb : Bytes g) (hS : S.length = 1088) (hSb : Bytes S) :
    Calls Tryd.prog 23 #[.agg (kv .u8 s).toArray, nameV d x, dgV m, dgV g, .agg (kv .u8 S).toArray] w (BoolPost (BelowP s d x m g S) w) := by
  have HX := Kp.mk hx
  have HS := Kp.mk (And.intro hs hsb)
  have HM := Kp.mk (And.intro hm hmb)
  have HGg := Kp.mk (And.intro hg hgb)
  have HSS := Kp.mk (And.intro hS hSb)
  have hC := fun (w : World) => box_row (t := 35) (cs := kv .u8 s) (cellsS35 hs) w
  have hC2 := fun (w : World) => box_row (t := 25) (cs := kv .u8 m) (cellsT25 hm) w
  have hC3 := fun (w : World) => box_row (t := 25) (cs := kv .u8 g) (cellsT25 hg) w
  have hC4 := fun (w : World) => box_row (t := 43) (cs := kv .u8 S) (cellsT43 hS) w
  obtain ⟨dm, hdm⟩ : ∃ dm, dm = digS m := ⟨_, rfl⟩
  obtain ⟨de, hde⟩ : ∃ de, de = digS g := ⟨_, rfl⟩
  have HD0 : Kp (digS m = dm) := ⟨hdm.symm⟩
  have HD1 : Kp (digS g = de) := ⟨hde.symm⟩
  have HDl : Kp (dm.length = 68 ∧ de.length = 68) := ⟨by rw [hdm, hde]; exact ⟨digS_len m, digS_len g⟩⟩
  have HDG : Kp (∀ c, c < 68 → dm.getD c 0 = digA m c ∧ de.getD c 0 = digA g c) := ⟨fun c hc => by rw [hdm, hde]; exact ⟨digS_at m hc, digS_at g hc⟩⟩
  have HC51_0 : Kp ((Tryd.prog.info? 51).map (·.size) = some (kv .u8 dm).toArray.size) := ⟨by rw [show (kv .u8 dm).toArray.size = 68 by simp [HDl.out.1]]; exact size33⟩
  have HC51_1 : Kp ((Tryd.prog.info? 51).map (·.size) = some (kv .u8 de).toArray.size) := ⟨by rw [show (kv .u8 de).toArray.size = 68 by simp [HDl.out.2]]; exact size33⟩
  have HZ51_0 : Kp ((kv .u8 (List.replicate 68 0)).toArray.size = (kv .u8 dm).toArray.size) := ⟨by rw [kv_size, kv_size, HDl.out.1]; simp⟩
  have HZ51_1 : Kp ((kv .u8 (List.replicate 68 0)).toArray.size = (kv .u8 de).toArray.size) := ⟨by rw [kv_size, kv_size, HDl.out.2]; simp⟩
  clear hx hs hsb hm hmb hg hgb hS hSb hdm hde
  go_enter Tryd.func23, Tryd.ntmps23
  go_wp2_with (first
    | (refine wpList_box_eq rfl 35 (.tmp 0) rfl _ rfl _ _ (hC _) ?_)
    | (refine wpList_box_eq rfl 25 (.tmp 2) rfl _ rfl _ _ (hC2 _) ?_)
    | (refine wpList_box_eq rfl 25 (.tmp 3) rfl _ rfl _ _ (hC3 _) ?_)
    | (refine wpList_box_eq rfl 43 (.tmp 4) rfl _ rfl _ _ (hC4 _) ?_))
  obtain ⟨A, hA⟩ : ∃ A, A = w.heap.size := ⟨_, rfl⟩
  have HA := Kp.mk hA
  rw [← hA]
  refine wp_world (fun W => Row W A 35 .u8 s ∧ Blk W (A + 1) (.cells #[.int .i64 d, .int .u32 x] 24) ∧ Row W (A + 2) 25 .u8 m ∧ Row W (A + 3) 25 .u8 g ∧ Row W (A + 4) 43 .u8 S ∧ Below A w W) ⟨?_, ?_, ?_, ?_, ?_, ?_⟩ ?_
  · exact Blk.old (Blk.old (Blk.old (Blk.old (Blk.newAt _ hA) _) _) _) _
  · exact Blk.old (Blk.old (Blk.old (Blk.newAt _ (by simp [hA])) _) _) _
  · exact Blk.old (Blk.old (Blk.newAt _ (by simp [hA])) _) _
  · exact Blk.old (Blk.newAt _ (by simp [hA])) _
  · exact Blk.newAt _ (by simp [hA])
  · rw [hA]; exact more (more (more (more (more (Below.refl _ _) _) _) _) _) _
  rw [show A + 1 + 1 + 1 + 1 = A + 4 from rfl, show A + 1 + 1 + 1 = A + 3 from rfl, show A + 1 + 1 = A + 2 from rfl]
  clear hA hC hC2 hC3 hC4
  rintro W ⟨h1, h2, h3, h6, h5, h4⟩
  have G1 := Kp.mk h1
  have G2 := Kp.mk h2
  have G3 := Kp.mk h3
  have G6 := Kp.mk h6
  have G5 := Kp.mk h5
  have G4 := Kp.mk h4
  clear h1 h2 h3 h4 h5 h6
  refine cut1 (fun g4 g5 w' => Row w' g4 51 .u8 dm ∧ Row w' g5 51 .u8 de ∧ g4 ≠ g5 ∧ A + 4 < g4 ∧ A + 4 < g5 ∧ Row w' A 35 .u8 s ∧ Blk w' (A + 1) (.cells #[.int .i64 d, .int .u32 x] 24) ∧ Row w' (A + 2) 25 .u8 m ∧ Row w' (A + 3) 25 .u8 g ∧ Row w' (A + 4) 43 .u8 S ∧ Below A w w')
      (fun g4 g5 a => ((((((a.put (some 16) (.agg (kv .u8 m).toArray)).put (some 17) (.agg (kv .u8 dm).toArray)).put (some 18) (.agg (kv .u8 g).toArray)).put (some 19) (.agg (kv .u8 de).toArray)).put (some 11) (.pointer (some ⟨g4, 0, none⟩))).put (some 12) (.pointer (some ⟨g5, 0, none⟩)))) ?_ ?_
  · refine wp_region_held_drew (S := fun w' => Row w' A 35 .u8 s ∧ Blk w' (A + 1) (.cells #[.int .i64 d, .int .u32 x] 24) ∧ Row w' (A + 2) 25 .u8 m ∧ Row w' (A + 3) 25 .u8 g ∧ Row w' (A + 4) 43 .u8 S ∧ Below A w w') (by kernel_rfl) ⟨G1.out.drew, G2.out.draw, G3.out.drew, G6.out.drew, G5.out.drew, G4.out.drew⟩ (fun hH => ?_)
    refine wpAnyH_take (i := 0) (oi := { dst := some 16, op := Go.Op.load 25 (Go.Operand.tmp 7), type := 25, pos := "ref.go:123", after := #[], guard := none }) (v := .agg (kv .u8 m).toArray) rfl (by kernel_rfl) (by kernel_rfl) (by kernel_rfl) (fun _ _ _ h => by cases h.1) (Or.inl ⟨by rfl, fun w hS => exec_load_blk 25 (.tmp 7) rfl (A + 2) rfl 25 _ (0, 0) _ hS.2.2.1 Tryd.underlying25 rfl (cellsT25 HM.out.1)⟩) hH ?_
    simp only [Act.put, List.setIfInBounds_toArray, List.set_cons_zero, List.set_cons_succ]
    refine wpAnyH_take (i := 2) (oi := { dst := some 18, op := Go.Op.load 25 (Go.Operand.tmp 8), type := 25, pos := "ref.go:123", after := #[], guard := none }) (v := .agg (kv .u8 g).toArray) rfl (by kernel_rfl) (by kernel_rfl) (by kernel_rfl) (fun _ _ _ h => by cases h.1) (Or.inl ⟨by rfl, fun w hS => exec_load_blk 25 (.tmp 8) rfl (A + 3) rfl 25 _ (0, 0) _ hS.2.2.2.1 Tryd.underlying25 rfl (cellsT25 HGg.out.1)⟩) hH ?_
    simp only [Act.put, List.setIfInBounds_toArray, List.set_cons_zero, List.set_cons_succ]
    refine wpAnyH_ready (rs := [1, 4, 5]) (by kernel_rfl) (by simp) ?_
    refine AllReadyH.cons (o := { dst := some 17, op := Go.Op.call { callee := Go.Callee.value (Go.Operand.func 21), args := #[Go.Operand.tmp 16], argTypes := #[25] }, type := 51, pos := "ref.go:123", after := #[{ on := 0, ground := Go.Ground.data }], guard := none }) rfl (fun K hK => ?_) (AllReadyH.cons (o := { dst := some 11, op := Go.Op.alloc 51, type := 0, pos := "ref.go:123", after := #[], guard := none }) rfl (fun K hK => ?_) (AllReadyH.cons (o := { dst := some 12, op := Go.Op.alloc 51, type := 0, pos := "ref.go:123", after := #[], guard := none }) rfl (fun K hK => ?_) AllReadyH.nil))
    · go_simp
      refine (rdigits_any m _ HM.out.1 HM.out.2).mono ?_
      rintro r wn1 ⟨rfl, hb⟩
      rw [HD0.out]
      refine hK.out _ _ ⟨hH.1.keep hb, Blk.keep hH.2.1 hb, hH.2.2.1.keep hb, hH.2.2.2.1.keep hb, hH.2.2.2.2.1.keep hb, hH.2.2.2.2.2.trans (hb.mono (Nat.le_of_lt hH.1.lt))⟩ (fun hHn => ?_)
      clear hK K
      try simp only [Act.put, List.setIfInBounds_toArray, List.set_cons_zero, List.set_cons_succ]
      clear hb hH
      have hH := hHn
      clear hHn
      refine wpAnyH_ready (rs := [3, 4, 5]) (by kernel_rfl) (by simp) ?_
      refine AllReadyH.cons (o := { dst := some 19, op := Go.Op.call { callee := Go.Callee.value (Go.Operand.func 21), args := #[Go.Operand.tmp 18], argTypes := #[25] }, type := 51, pos := "ref.go:123", after := #[{ on := 2, ground := Go.Ground.data }, { on := 1, ground := Go.Ground.chain }], guard := none }) rfl (fun K hK => ?_) (AllReadyH.cons (o := { dst := some 11, op := Go.Op.alloc 51, type := 0, pos := "ref.go:123", after := #[], guard := none }) rfl (fun K hK => ?_) (AllReadyH.cons (o := { dst := some 12, op := Go.Op.alloc 51, type := 0, pos := "ref.go:123", after := #[], guard := none }) rfl (fun K hK => ?_) AllReadyH.nil))
      · go_simp
        refine (rdigits_any g _ HGg.out.1 HGg.out.2).mono ?_
        rintro r wn2 ⟨rfl, hb⟩
        rw [HD1.out]
        refine hK.out _ _ ⟨hH.1.keep hb, Blk.keep hH.2.1 hb, hH.2.2.1.keep hb, hH.2.2.2.1.keep hb, hH.2.2.2.2.1.keep hb, hH.2.2.2.2.2.trans (hb.mono (Nat.le_of_lt hH.1.lt))⟩ (fun hHn => ?_)
        clear hK K
        try simp only [Act.put, List.setIfInBounds_toArray, List.set_cons_zero, List.set_cons_succ]
        clear hb hH
        have hH := hHn
        clear hHn
        refine wpAnyH_ready (rs := [4, 5]) (by kernel_rfl) (by simp) ?_
        refine AllReadyH.cons (o := { dst := some 11, op := Go.Op.alloc 51, type := 0, pos := "ref.go:123", after := #[], guard := none }) rfl (fun K hK => ?_) (AllReadyH.cons (o := { dst := some 12, op := Go.Op.alloc 51, type := 0, pos := "ref.go:123", after := #[], guard := none }) rfl (fun K hK => ?_) AllReadyH.nil)
        · rw [if_pos (by rfl)]
          refine wp_alloc_row51 51 rfl _ _ info33 ?_
          refine hK.out _ _ ⟨Row.alloc hH.1 _, Blk.old hH.2.1 _, Row.alloc hH.2.2.1 _, Row.alloc hH.2.2.2.1 _, Row.alloc hH.2.2.2.2.1 _, hH.2.2.2.2.2.alloc (Nat.le_of_lt hH.1.lt) _⟩ (fun hHn => ?_)
          clear hK K
          try simp only [Act.put, List.setIfInBounds_toArray, List.set_cons_zero, List.set_cons_succ]
          obtain ⟨g4, eg4, R4_3, hlt, hgs⟩ := new_row51 _ (B := A + 4) (hH.2.2.2.2.1.lt)
          try rw [← eg4] at hHn
          try rw [← eg4]
          have E4 := Kp.mk eg4
          clear eg4
          have hg4 : A + 4 < g4 := hlt
          clear hlt hgs hH
          have hH := hHn
          clear hHn
          refine wpAnyH_ready (rs := [5]) (by kernel_rfl) (by simp) ?_
          refine AllReadyH.cons (o := { dst := some 12, op := Go.Op.alloc 51, type := 0, pos := "ref.go:123", after := #[], guard := none }) rfl (fun K hK => ?_) AllReadyH.nil
          rw [if_pos (by rfl)]
          refine wp_alloc_row51 51 rfl _ _ info33 ?_
          refine hK.out _ _ ⟨Row.alloc hH.1 _, Blk.old hH.2.1 _, Row.alloc hH.2.2.1 _, Row.alloc hH.2.2.2.1 _, Row.alloc hH.2.2.2.2.1 _, hH.2.2.2.2.2.alloc (Nat.le_of_lt hH.1.lt) _⟩ (fun hHn => ?_)
          clear hK K
          try simp only [Act.put, List.setIfInBounds_toArray, List.set_cons_zero, List.set_cons_succ]
          have R4_4 := Row.alloc R4_3 (.cells (kv .u8 (List.replicate 68 0)).toArray 51)
          obtain ⟨g5, eg5, R5_4, hlt, hgs⟩ := new_row51 _ (B := A + 4) (hH.2.2.2.2.1.lt)
          try rw [← eg5] at hHn
          try rw [← eg5]
          have E5 := Kp.mk eg5
          clear eg5
          have hg5 : A + 4 < g5 := hlt
          have hne : g4 ≠ g5 := by have := Row.lt R4_3; have := E5.out; omega
          clear hlt hgs hH
          have hH := hHn
          clear hHn
          refine wpAnyH_ready (rs := [6]) (by kernel_rfl) (by simp) ?_
          refine AllReadyH.cons (o := { dst := none, op := Go.Op.store 51 (Go.Operand.tmp 11) (Go.Operand.tmp 17), type := 0, pos := "ref.go:123", after := #[{ on := 4, ground := Go.Ground.data }, { on := 1, ground := Go.Ground.data }, { on := 3, ground := Go.Ground.chain }, { on := 0, ground := Go.Ground.phase }, { on := 1, ground := Go.Ground.phase }, { on := 2, ground := Go.Ground.textOnly Go.Departure.lateStores }, { on := 3, ground := Go.Ground.textOnly Go.Departure.lateStoresUnsure }, { on := 4, ground := Go.Ground.phase }, { on := 5, ground := Go.Ground.phase }], guard := none }) rfl (fun K hK => ?_) AllReadyH.nil
          rw [if_pos (by rfl)]
          refine wp_store_row 51 (.tmp 11) (.tmp 17) rfl g4 (kv .u8 dm).toArray rfl rfl 51 _ R4_4 HC51_0.out HZ51_0.out (kv_all _ _) ?_
          refine hK.out _ _ ⟨Row.otherRow hH.1 (by omega) _, (setRow_other _ g4 (A + 1) _ (by omega)).trans hH.2.1, Row.otherRow hH.2.2.1 (by omega) _, Row.otherRow hH.2.2.2.1 (by omega) _, Row.otherRow hH.2.2.2.2.1 (by omega) _, Below.row hH.2.2.2.2.2 (by omega) _⟩ (fun hHn => ?_)
          clear hK K
          try simp only [Act.put, List.setIfInBounds_toArray, List.set_cons_zero, List.set_cons_succ]
          have R4_5 := Row.setRow R4_4 dm
          have R5_5 := Row.otherRow (g := g4) R5_4 (Ne.symm hne) (kv .u8 dm).toArray
          clear hH
          have hH := hHn
          clear hHn
          refine wpAnyH_ready (rs := [7]) (by kernel_rfl) (by simp) ?_
          refine AllReadyH.cons (o := { dst := none, op := Go.Op.store 51 (Go.Operand.tmp 12) (Go.Operand.tmp 19), type := 0, pos := "ref.go:123", after := #[{ on := 5, ground := Go.Ground.data }, { on := 3, ground := Go.Ground.data }, { on := 6, ground := Go.Ground.chain }, { on := 0, ground := Go.Ground.phase }, { on := 1, ground := Go.Ground.phase }, { on := 2, ground := Go.Ground.phase }, { on := 3, ground := Go.Ground.phase }, { on := 4, ground := Go.Ground.phase }, { on := 5, ground := Go.Ground.phase }, { on := 6, ground := Go.Ground.phase }], guard := none }) rfl (fun K hK => ?_) AllReadyH.nil
          rw [if_pos (by rfl)]
          refine wp_store_row 51 (.tmp 12) (.tmp 19) rfl g5 (kv .u8 de).toArray rfl rfl 51 _ R5_5 HC51_1.out HZ51_1.out (kv_all _ _) ?_
          refine hK.out _ _ ⟨Row.otherRow hH.1 (by omega) _, (setRow_other _ g5 (A + 1) _ (by omega)).trans hH.2.1, Row.otherRow hH.2.2.1 (by omega) _, Row.otherRow hH.2.2.2.1 (by omega) _, Row.otherRow hH.2.2.2.2.1 (by omega) _, Below.row hH.2.2.2.2.2 (by omega) _⟩ (fun hHn => ?_)
          clear hK K
          try simp only [Act.put, List.setIfInBounds_toArray, List.set_cons_zero, List.set_cons_succ]
          have R5_6 := Row.setRow R5_5 de
          have R4_6 := Row.otherRow (g := g5) R4_5 (hne) (kv .u8 de).toArray
          clear hH
          have hH := hHn
          clear hHn
          refine wpAnyH_done (by kernel_rfl) ?_ _
          exact ⟨rfl, g4, g5, rfl, R4_6, R5_6, hne, hg4, hg5, hH.1, hH.2.1, hH.2.2.1, hH.2.2.2.1, hH.2.2.2.2.1, hH.2.2.2.2.2⟩
        · rw [if_pos (by rfl)]
          refine wp_alloc_row51 51 rfl _ _ info33 ?_
          refine hK.out _ _ ⟨Row.alloc hH.1 _, Blk.old hH.2.1 _, Row.alloc hH.2.2.1 _, Row.alloc hH.2.2.2.1 _, Row.alloc hH.2.2.2.2.1 _, hH.2.2.2.2.2.alloc (Nat.le_of_lt hH.1.lt) _⟩ (fun hHn => ?_)
          clear hK K
          try simp only [Act.put, List.setIfInBounds_toArray, List.set_cons_zero, List.set_cons_succ]
          obtain ⟨g5, eg5, R5_7, hlt, hgs⟩ := new_row51 _ (B := A + 4) (hH.2.2.2.2.1.lt)
          try rw [← eg5] at hHn
          try rw [← eg5]
          have E5 := Kp.mk eg5
          clear eg5
          have hg5 : A + 4 < g5 := hlt
          clear hlt hgs hH
          have hH := hHn
          clear hHn
          refine wpAnyH_ready (rs := [4]) (by kernel_rfl) (by simp) ?_
          refine AllReadyH.cons (o := { dst := some 11, op := Go.Op.alloc 51, type := 0, pos := "ref.go:123", after := #[], guard := none }) rfl (fun K hK => ?_) AllReadyH.nil
          rw [if_pos (by rfl)]
          refine wp_alloc_row51 51 rfl _ _ info33 ?_
          refine hK.out _ _ ⟨Row.alloc hH.1 _, Blk.old hH.2.1 _, Row.alloc hH.2.2.1 _, Row.alloc hH.2.2.2.1 _, Row.alloc hH.2.2.2.2.1 _, hH.2.2.2.2.2.alloc (Nat.le_of_lt hH.1.lt) _⟩ (fun hHn => ?_)
          clear hK K
          try simp only [Act.put, List.setIfInBounds_toArray, List.set_cons_zero, List.set_cons_succ]
          have R5_8 := Row.alloc R5_7 (.cells (kv .u8 (List.replicate 68 0)).toArray 51)
          obtain ⟨g4, eg4, R4_8, hlt, hgs⟩ := new_row51 _ (B := A + 4) (hH.2.2.2.2.1.lt)
          try rw [← eg4] at hHn
          try rw [← eg4]
          have E4 := Kp.mk eg4
          clear eg4
          have hg4 : A + 4 < g4 := hlt
          have hne : g4 ≠ g5 := by have := Row.lt R5_7; have := E4.out; omega
          clear hlt hgs hH
          have hH := hHn
          clear hHn
          refine wpAnyH_ready (rs := [6]) (by kernel_rfl) (by simp) ?_
          refine AllReadyH.cons (o := { dst := none, op := Go.Op.store 51 (Go.Operand.tmp 11) (Go.Operand.tmp 17), type := 0, pos := "ref.go:123", after := #[{ on := 4, ground := Go.Ground.data }, { on := 1, ground := Go.Ground.data }, { on := 3, ground := Go.Ground.chain }, { on := 0, ground := Go.Ground.phase }, { on := 1, ground := Go.Ground.phase }, { on := 2, ground := Go.Ground.textOnly Go.Departure.lateStores }, { on := 3, ground := Go.Ground.textOnly Go.Departure.lateStoresUnsure }, { on := 4, ground := Go.Ground.phase }, { on := 5, ground := Go.Ground.phase }], guard := none }) rfl (fun K hK => ?_) AllReadyH.nil
          rw [if_pos (by rfl)]
          refine wp_store_row 51 (.tmp 11) (.tmp 17) rfl g4 (kv .u8 dm).toArray rfl rfl 51 _ R4_8 HC51_0.out HZ51_0.out (kv_all _ _) ?_
          refine hK.out _ _ ⟨Row.otherRow hH.1 (by omega) _, (setRow_other _ g4 (A + 1) _ (by omega)).trans hH.2.1, Row.otherRow hH.2.2.1 (by omega) _, Row.otherRow hH.2.2.2.1 (by omega) _, Row.otherRow hH.2.2.2.2.1 (by omega) _, Below.row hH.2.2.2.2.2 (by omega) _⟩ (fun hHn => ?_)
          clear hK K
          try simp only [Act.put, List.setIfInBounds_toArray, List.set_cons_zero, List.set_cons_succ]
          have R4_9 := Row.setRow R4_8 dm
          have R5_9 := Row.otherRow (g := g4) R5_8 (Ne.symm hne) (kv .u8 dm).toArray
          clear hH
          have hH := hHn
          clear hHn
          refine wpAnyH_ready (rs := [7]) (by kernel_rfl) (by simp) ?_
          refine AllReadyH.cons (o := { dst := none, op := Go.Op.store 51 (Go.Operand.tmp 12) (Go.Operand.tmp 19), type := 0, pos := "ref.go:123", after := #[{ on := 5, ground := Go.Ground.data }, { on := 3, ground := Go.Ground.data }, { on := 6, ground := Go.Ground.chain }, { on := 0, ground := Go.Ground.phase }, { on := 1, ground := Go.Ground.phase }, { on := 2, ground := Go.Ground.phase }, { on := 3, ground := Go.Ground.phase }, { on := 4, ground := Go.Ground.phase }, { on := 5, ground := Go.Ground.phase }, { on := 6, ground := Go.Ground.phase }], guard := none }) rfl (fun K hK => ?_) AllReadyH.nil
          rw [if_pos (by rfl)]
          refine wp_store_row 51 (.tmp 12) (.tmp 19) rfl g5 (kv .u8 de).toArray rfl rfl 51 _ R5_9 HC51_1.out HZ51_1.out (kv_all _ _) ?_
          refine hK.out _ _ ⟨Row.otherRow hH.1 (by omega) _, (setRow_other _ g5 (A + 1) _ (by omega)).trans hH.2.1, Row.otherRow hH.2.2.1 (by omega) _, Row.otherRow hH.2.2.2.1 (by omega) _, Row.otherRow hH.2.2.2.2.1 (by omega) _, Below.row hH.2.2.2.2.2 (by omega) _⟩ (fun hHn => ?_)
          clear hK K
          try simp only [Act.put, List.setIfInBounds_toArray, List.set_cons_zero, List.set_cons_succ]
          have R5_10 := Row.setRow R5_9 de
          have R4_10 := Row.otherRow (g := g5) R4_9 (hne) (kv .u8 de).toArray
          clear hH
          have hH := hHn
          clear hHn
          refine wpAnyH_done (by kernel_rfl) ?_ _
          exact ⟨rfl, g4, g5, rfl, R4_10, R5_10, hne, hg4, hg5, hH.1, hH.2.1, hH.2.2.1, hH.2.2.2.1, hH.2.2.2.2.1, hH.2.2.2.2.2⟩
      · rw [if_pos (by rfl)]
        refine wp_alloc_row51 51 rfl _ _ info33 ?_
        refine hK.out _ _ ⟨Row.alloc hH.1 _, Blk.old hH.2.1 _, Row.alloc hH.2.2.1 _, Row.alloc hH.2.2.2.1 _, Row.alloc hH.2.2.2.2.1 _, hH.2.2.2.2.2.alloc (Nat.le_of_lt hH.1.lt) _⟩ (fun hHn => ?_)
        clear hK K
        try simp only [Act.put, List.setIfInBounds_toArray, List.set_cons_zero, List.set_cons_succ]
        obtain ⟨g4, eg4, R4_11, hlt, hgs⟩ := new_row51 _ (B := A + 4) (hH.2.2.2.2.1.lt)
        try rw [← eg4] at hHn
        try rw [← eg4]
        have E4 := Kp.mk eg4
        clear eg4
        have hg4 : A + 4 < g4 := hlt
        clear hlt hgs hH
        have hH := hHn
        clear hHn
        refine wpAnyH_ready (rs := [3, 5]) (by kernel_rfl) (by simp) ?_
        refine AllReadyH.cons (o := { dst := some 19, op := Go.Op.call { callee := Go.Callee.value (Go.Operand.func 21), args := #[Go.Operand.tmp 18], argTypes := #[25] }, type := 51, pos := "ref.go:123", after := #[{ on := 2, ground := Go.Ground.data }, { on := 1, ground := Go.Ground.chain }], guard := none }) rfl (fun K hK => ?_) (AllReadyH.cons (o := { dst := some 12, op := Go.Op.alloc 51, type := 0, pos := "ref.go:123", after := #[], guard := none }) rfl (fun K hK => ?_) AllReadyH.nil)
        · go_simp
          refine (rdigits_any g _ HGg.out.1 HGg.out.2).mono ?_
          rintro r wn12 ⟨rfl, hb⟩
          rw [HD1.out]
          have R4_12 := Row.keep R4_11 hb
          refine hK.out _ _ ⟨hH.1.keep hb, Blk.keep hH.2.1 hb, hH.2.2.1.keep hb, hH.2.2.2.1.keep hb, hH.2.2.2.2.1.keep hb, hH.2.2.2.2.2.trans (hb.mono (Nat.le_of_lt hH.1.lt))⟩ (fun hHn => ?_)
          clear hK K
          try simp only [Act.put, List.setIfInBounds_toArray, List.set_cons_zero, List.set_cons_succ]
          clear hb hH
          have hH := hHn
          clear hHn
          refine wpAnyH_ready (rs := [5]) (by kernel_rfl) (by simp) ?_
          refine AllReadyH.cons (o := { dst := some 12, op := Go.Op.alloc 51, type := 0, pos := "ref.go:123", after := #[], guard := none }) rfl (fun K hK => ?_) AllReadyH.nil
          rw [if_pos (by rfl)]
          refine wp_alloc_row51 51 rfl _ _ info33 ?_
          refine hK.out _ _ ⟨Row.alloc hH.1 _, Blk.old hH.2.1 _, Row.alloc hH.2.2.1 _, Row.alloc hH.2.2.2.1 _, Row.alloc hH.2.2.2.2.1 _, hH.2.2.2.2.2.alloc (Nat.le_of_lt hH.1.lt) _⟩ (fun hHn => ?_)
          clear hK K
          try simp only [Act.put, List.setIfInBounds_toArray, List.set_cons_zero, List.set_cons_succ]
          have R4_13 := Row.alloc R4_12 (.cells (kv .u8 (List.replicate 68 0)).toArray 51)
          obtain ⟨g5, eg5, R5_13, hlt, hgs⟩ := new_row51 _ (B := A + 4) (hH.2.2.2.2.1.lt)
          try rw [← eg5] at hHn
          try rw [← eg5]
          have E5 := Kp.mk eg5
          clear eg5
          have hg5 : A + 4 < g5 := hlt
          have hne : g4 ≠ g5 := by have := Row.lt R4_12; have := E5.out; omega
          clear hlt hgs hH
          have hH := hHn
          clear hHn
          refine wpAnyH_ready (rs := [6]) (by kernel_rfl) (by simp) ?_
          refine AllReadyH.cons (o := { dst := none, op := Go.Op.store 51 (Go.Operand.tmp 11) (Go.Operand.tmp 17), type := 0, pos := "ref.go:123", after := #[{ on := 4, ground := Go.Ground.data }, { on := 1, ground := Go.Ground.data }, { on := 3, ground := Go.Ground.chain }, { on := 0, ground := Go.Ground.phase }, { on := 1, ground := Go.Ground.phase }, { on := 2, ground := Go.Ground.textOnly Go.Departure.lateStores }, { on := 3, ground := Go.Ground.textOnly Go.Departure.lateStoresUnsure }, { on := 4, ground := Go.Ground.phase }, { on := 5, ground := Go.Ground.phase }], guard := none }) rfl (fun K hK => ?_) AllReadyH.nil
          rw [if_pos (by rfl)]
          refine wp_store_row 51 (.tmp 11) (.tmp 17) rfl g4 (kv .u8 dm).toArray rfl rfl 51 _ R4_13 HC51_0.out HZ51_0.out (kv_all _ _) ?_
          refine hK.out _ _ ⟨Row.otherRow hH.1 (by omega) _, (setRow_other _ g4 (A + 1) _ (by omega)).trans hH.2.1, Row.otherRow hH.2.2.1 (by omega) _, Row.otherRow hH.2.2.2.1 (by omega) _, Row.otherRow hH.2.2.2.2.1 (by omega) _, Below.row hH.2.2.2.2.2 (by omega) _⟩ (fun hHn => ?_)
          clear hK K
          try simp only [Act.put, List.setIfInBounds_toArray, List.set_cons_zero, List.set_cons_succ]
          have R4_14 := Row.setRow R4_13 dm
          have R5_14 := Row.otherRow (g := g4) R5_13 (Ne.symm hne) (kv .u8 dm).toArray
          clear hH
          have hH := hHn
          clear hHn
          refine wpAnyH_ready (rs := [7]) (by kernel_rfl) (by simp) ?_
          refine AllReadyH.cons (o := { dst := none, op := Go.Op.store 51 (Go.Operand.tmp 12) (Go.Operand.tmp 19), type := 0, pos := "ref.go:123", after := #[{ on := 5, ground := Go.Ground.data }, { on := 3, ground := Go.Ground.data }, { on := 6, ground := Go.Ground.chain }, { on := 0, ground := Go.Ground.phase }, { on := 1, ground := Go.Ground.phase }, { on := 2, ground := Go.Ground.phase }, { on := 3, ground := Go.Ground.phase }, { on := 4, ground := Go.Ground.phase }, { on := 5, ground := Go.Ground.phase }, { on := 6, ground := Go.Ground.phase }], guard := none }) rfl (fun K hK => ?_) AllReadyH.nil
          rw [if_pos (by rfl)]
          refine wp_store_row 51 (.tmp 12) (.tmp 19) rfl g5 (kv .u8 de).toArray rfl rfl 51 _ R5_14 HC51_1.out HZ51_1.out (kv_all _ _) ?_
          refine hK.out _ _ ⟨Row.otherRow hH.1 (by omega) _, (setRow_other _ g5 (A + 1) _ (by omega)).trans hH.2.1, Row.otherRow hH.2.2.1 (by omega) _, Row.otherRow hH.2.2.2.1 (by omega) _, Row.otherRow hH.2.2.2.2.1 (by omega) _, Below.row hH.2.2.2.2.2 (by omega) _⟩ (fun hHn => ?_)
          clear hK K
          try simp only [Act.put, List.setIfInBounds_toArray, List.set_cons_zero, List.set_cons_succ]
          have R5_15 := Row.setRow R5_14 de
          have R4_15 := Row.otherRow (g := g5) R4_14 (hne) (kv .u8 de).toArray
          clear hH
          have hH := hHn
          clear hHn
          refine wpAnyH_done (by kernel_rfl) ?_ _
          exact ⟨rfl, g4, g5, rfl, R4_15, R5_15, hne, hg4, hg5, hH.1, hH.2.1, hH.2.2.1, hH.2.2.2.1, hH.2.2.2.2.1, hH.2.2.2.2.2⟩
        · rw [if_pos (by rfl)]
          refine wp_alloc_row51 51 rfl _ _ info33 ?_
          refine hK.out _ _ ⟨Row.alloc hH.1 _, Blk.old hH.2.1 _, Row.alloc hH.2.2.1 _, Row.alloc hH.2.2.2.1 _, Row.alloc hH.2.2.2.2.1 _, hH.2.2.2.2.2.alloc (Nat.le_of_lt hH.1.lt) _⟩ (fun hHn => ?_)
          clear hK K
          try simp only [Act.put, List.setIfInBounds_toArray, List.set_cons_zero, List.set_cons_succ]
          have R4_16 := Row.alloc R4_11 (.cells (kv .u8 (List.replicate 68 0)).toArray 51)
          obtain ⟨g5, eg5, R5_16, hlt, hgs⟩ := new_row51 _ (B := A + 4) (hH.2.2.2.2.1.lt)
          try rw [← eg5] at hHn
          try rw [← eg5]
          have E5 := Kp.mk eg5
          clear eg5
          have hg5 : A + 4 < g5 := hlt
          have hne : g4 ≠ g5 := by have := Row.lt R4_11; have := E5.out; omega
          clear hlt hgs hH
          have hH := hHn
          clear hHn
          refine wpAnyH_ready (rs := [3]) (by kernel_rfl) (by simp) ?_
          refine AllReadyH.cons (o := { dst := some 19, op := Go.Op.call { callee := Go.Callee.value (Go.Operand.func 21), args := #[Go.Operand.tmp 18], argTypes := #[25] }, type := 51, pos := "ref.go:123", after := #[{ on := 2, ground := Go.Ground.data }, { on := 1, ground := Go.Ground.chain }], guard := none }) rfl (fun K hK => ?_) AllReadyH.nil
          go_simp
          refine (rdigits_any g _ HGg.out.1 HGg.out.2).mono ?_
          rintro r wn17 ⟨rfl, hb⟩
          rw [HD1.out]
          have R4_17 := Row.keep R4_16 hb
          have R5_17 := Row.keep R5_16 hb
          refine hK.out _ _ ⟨hH.1.keep hb, Blk.keep hH.2.1 hb, hH.2.2.1.keep hb, hH.2.2.2.1.keep hb, hH.2.2.2.2.1.keep hb, hH.2.2.2.2.2.trans (hb.mono (Nat.le_of_lt hH.1.lt))⟩ (fun hHn => ?_)
          clear hK K
          try simp only [Act.put, List.setIfInBounds_toArray, List.set_cons_zero, List.set_cons_succ]
          clear hb hH
          have hH := hHn
          clear hHn
          refine wpAnyH_ready (rs := [6]) (by kernel_rfl) (by simp) ?_
          refine AllReadyH.cons (o := { dst := none, op := Go.Op.store 51 (Go.Operand.tmp 11) (Go.Operand.tmp 17), type := 0, pos := "ref.go:123", after := #[{ on := 4, ground := Go.Ground.data }, { on := 1, ground := Go.Ground.data }, { on := 3, ground := Go.Ground.chain }, { on := 0, ground := Go.Ground.phase }, { on := 1, ground := Go.Ground.phase }, { on := 2, ground := Go.Ground.textOnly Go.Departure.lateStores }, { on := 3, ground := Go.Ground.textOnly Go.Departure.lateStoresUnsure }, { on := 4, ground := Go.Ground.phase }, { on := 5, ground := Go.Ground.phase }], guard := none }) rfl (fun K hK => ?_) AllReadyH.nil
          rw [if_pos (by rfl)]
          refine wp_store_row 51 (.tmp 11) (.tmp 17) rfl g4 (kv .u8 dm).toArray rfl rfl 51 _ R4_17 HC51_0.out HZ51_0.out (kv_all _ _) ?_
          refine hK.out _ _ ⟨Row.otherRow hH.1 (by omega) _, (setRow_other _ g4 (A + 1) _ (by omega)).trans hH.2.1, Row.otherRow hH.2.2.1 (by omega) _, Row.otherRow hH.2.2.2.1 (by omega) _, Row.otherRow hH.2.2.2.2.1 (by omega) _, Below.row hH.2.2.2.2.2 (by omega) _⟩ (fun hHn => ?_)
          clear hK K
          try simp only [Act.put, List.setIfInBounds_toArray, List.set_cons_zero, List.set_cons_succ]
          have R4_18 := Row.setRow R4_17 dm
          have R5_18 := Row.otherRow (g := g4) R5_17 (Ne.symm hne) (kv .u8 dm).toArray
          clear hH
          have hH := hHn
          clear hHn
          refine wpAnyH_ready (rs := [7]) (by kernel_rfl) (by simp) ?_
          refine AllReadyH.cons (o := { dst := none, op := Go.Op.store 51 (Go.Operand.tmp 12) (Go.Operand.tmp 19), type := 0, pos := "ref.go:123", after := #[{ on := 5, ground := Go.Ground.data }, { on := 3, ground := Go.Ground.data }, { on := 6, ground := Go.Ground.chain }, { on := 0, ground := Go.Ground.phase }, { on := 1, ground := Go.Ground.phase }, { on := 2, ground := Go.Ground.phase }, { on := 3, ground := Go.Ground.phase }, { on := 4, ground := Go.Ground.phase }, { on := 5, ground := Go.Ground.phase }, { on := 6, ground := Go.Ground.phase }], guard := none }) rfl (fun K hK => ?_) AllReadyH.nil
          rw [if_pos (by rfl)]
          refine wp_store_row 51 (.tmp 12) (.tmp 19) rfl g5 (kv .u8 de).toArray rfl rfl 51 _ R5_18 HC51_1.out HZ51_1.out (kv_all _ _) ?_
          refine hK.out _ _ ⟨Row.otherRow hH.1 (by omega) _, (setRow_other _ g5 (A + 1) _ (by omega)).trans hH.2.1, Row.otherRow hH.2.2.1 (by omega) _, Row.otherRow hH.2.2.2.1 (by omega) _, Row.otherRow hH.2.2.2.2.1 (by omega) _, Below.row hH.2.2.2.2.2 (by omega) _⟩ (fun hHn => ?_)
          clear hK K
          try simp only [Act.put, List.setIfInBounds_toArray, List.set_cons_zero, List.set_cons_succ]
          have R5_19 := Row.setRow R5_18 de
          have R4_19 := Row.otherRow (g := g5) R4_18 (hne) (kv .u8 de).toArray
          clear hH
          have hH := hHn
          clear hHn
          refine wpAnyH_done (by kernel_rfl) ?_ _
          exact ⟨rfl, g4, g5, rfl, R4_19, R5_19, hne, hg4, hg5, hH.1, hH.2.1, hH.2.2.1, hH.2.2.2.1, hH.2.2.2.2.1, hH.2.2.2.2.2⟩
      · rw [if_pos (by rfl)]
        refine wp_alloc_row51 51 rfl _ _ info33 ?_
        refine hK.out _ _ ⟨Row.alloc hH.1 _, Blk.old hH.2.1 _, Row.alloc hH.2.2.1 _, Row.alloc hH.2.2.2.1 _, Row.alloc hH.2.2.2.2.1 _, hH.2.2.2.2.2.alloc (Nat.le_of_lt hH.1.lt) _⟩ (fun hHn => ?_)
        clear hK K
        try simp only [Act.put, List.setIfInBounds_toArray, List.set_cons_zero, List.set_cons_succ]
        obtain ⟨g5, eg5, R5_20, hlt, hgs⟩ := new_row51 _ (B := A + 4) (hH.2.2.2.2.1.lt)
        try rw [← eg5] at hHn
        try rw [← eg5]
        have E5 := Kp.mk eg5
        clear eg5
        have hg5 : A + 4 < g5 := hlt
        clear hlt hgs hH
        have hH := hHn
        clear hHn
        refine wpAnyH_ready (rs := [3, 4]) (by kernel_rfl) (by simp) ?_
        refine AllReadyH.cons (o := { dst := some 19, op := Go.Op.call { callee := Go.Callee.value (Go.Operand.func 21), args := #[Go.Operand.tmp 18], argTypes := #[25] }, type := 51, pos := "ref.go:123", after := #[{ on := 2, ground := Go.Ground.data }, { on := 1, ground := Go.Ground.chain }], guard := none }) rfl (fun K hK => ?_) (AllReadyH.cons (o := { dst := some 11, op := Go.Op.alloc 51, type := 0, pos := "ref.go:123", after := #[], guard := none }) rfl (fun K hK => ?_) AllReadyH.nil)
        · go_simp
          refine (rdigits_any g _ HGg.out.1 HGg.out.2).mono ?_
          rintro r wn21 ⟨rfl, hb⟩
          rw [HD1.out]
          have R5_21 := Row.keep R5_20 hb
          refine hK.out _ _ ⟨hH.1.keep hb, Blk.keep hH.2.1 hb, hH.2.2.1.keep hb, hH.2.2.2.1.keep hb, hH.2.2.2.2.1.keep hb, hH.2.2.2.2.2.trans (hb.mono (Nat.le_of_lt hH.1.lt))⟩ (fun hHn => ?_)
          clear hK K
          try simp only [Act.put, List.setIfInBounds_toArray, List.set_cons_zero, List.set_cons_succ]
          clear hb hH
          have hH := hHn
          clear hHn
          refine wpAnyH_ready (rs := [4]) (by kernel_rfl) (by simp) ?_
          refine AllReadyH.cons (o := { dst := some 11, op := Go.Op.alloc 51, type := 0, pos := "ref.go:123", after := #[], guard := none }) rfl (fun K hK => ?_) AllReadyH.nil
          rw [if_pos (by rfl)]
          refine wp_alloc_row51 51 rfl _ _ info33 ?_
          refine hK.out _ _ ⟨Row.alloc hH.1 _, Blk.old hH.2.1 _, Row.alloc hH.2.2.1 _, Row.alloc hH.2.2.2.1 _, Row.alloc hH.2.2.2.2.1 _, hH.2.2.2.2.2.alloc (Nat.le_of_lt hH.1.lt) _⟩ (fun hHn => ?_)
          clear hK K
          try simp only [Act.put, List.setIfInBounds_toArray, List.set_cons_zero, List.set_cons_succ]
          have R5_22 := Row.alloc R5_21 (.cells (kv .u8 (List.replicate 68 0)).toArray 51)
          obtain ⟨g4, eg4, R4_22, hlt, hgs⟩ := new_row51 _ (B := A + 4) (hH.2.2.2.2.1.lt)
          try rw [← eg4] at hHn
          try rw [← eg4]
          have E4 := Kp.mk eg4
          clear eg4
          have hg4 : A + 4 < g4 := hlt
          have hne : g4 ≠ g5 := by have := Row.lt R5_21; have := E4.out; omega
          clear hlt hgs hH
          have hH := hHn
          clear hHn
          refine wpAnyH_ready (rs := [6]) (by kernel_rfl) (by simp) ?_
          refine AllReadyH.cons (o := { dst := none, op := Go.Op.store 51 (Go.Operand.tmp 11) (Go.Operand.tmp 17), type := 0, pos := "ref.go:123", after := #[{ on := 4, ground := Go.Ground.data }, { on := 1, ground := Go.Ground.data }, { on := 3, ground := Go.Ground.chain }, { on := 0, ground := Go.Ground.phase }, { on := 1, ground := Go.Ground.phase }, { on := 2, ground := Go.Ground.textOnly Go.Departure.lateStores }, { on := 3, ground := Go.Ground.textOnly Go.Departure.lateStoresUnsure }, { on := 4, ground := Go.Ground.phase }, { on := 5, ground := Go.Ground.phase }], guard := none }) rfl (fun K hK => ?_) AllReadyH.nil
          rw [if_pos (by rfl)]
          refine wp_store_row 51 (.tmp 11) (.tmp 17) rfl g4 (kv .u8 dm).toArray rfl rfl 51 _ R4_22 HC51_0.out HZ51_0.out (kv_all _ _) ?_
          refine hK.out _ _ ⟨Row.otherRow hH.1 (by omega) _, (setRow_other _ g4 (A + 1) _ (by omega)).trans hH.2.1, Row.otherRow hH.2.2.1 (by omega) _, Row.otherRow hH.2.2.2.1 (by omega) _, Row.otherRow hH.2.2.2.2.1 (by omega) _, Below.row hH.2.2.2.2.2 (by omega) _⟩ (fun hHn => ?_)
          clear hK K
          try simp only [Act.put, List.setIfInBounds_toArray, List.set_cons_zero, List.set_cons_succ]
          have R4_23 := Row.setRow R4_22 dm
          have R5_23 := Row.otherRow (g := g4) R5_22 (Ne.symm hne) (kv .u8 dm).toArray
          clear hH
          have hH := hHn
          clear hHn
          refine wpAnyH_ready (rs := [7]) (by kernel_rfl) (by simp) ?_
          refine AllReadyH.cons (o := { dst := none, op := Go.Op.store 51 (Go.Operand.tmp 12) (Go.Operand.tmp 19), type := 0, pos := "ref.go:123", after := #[{ on := 5, ground := Go.Ground.data }, { on := 3, ground := Go.Ground.data }, { on := 6, ground := Go.Ground.chain }, { on := 0, ground := Go.Ground.phase }, { on := 1, ground := Go.Ground.phase }, { on := 2, ground := Go.Ground.phase }, { on := 3, ground := Go.Ground.phase }, { on := 4, ground := Go.Ground.phase }, { on := 5, ground := Go.Ground.phase }, { on := 6, ground := Go.Ground.phase }], guard := none }) rfl (fun K hK => ?_) AllReadyH.nil
          rw [if_pos (by rfl)]
          refine wp_store_row 51 (.tmp 12) (.tmp 19) rfl g5 (kv .u8 de).toArray rfl rfl 51 _ R5_23 HC51_1.out HZ51_1.out (kv_all _ _) ?_
          refine hK.out _ _ ⟨Row.otherRow hH.1 (by omega) _, (setRow_other _ g5 (A + 1) _ (by omega)).trans hH.2.1, Row.otherRow hH.2.2.1 (by omega) _, Row.otherRow hH.2.2.2.1 (by omega) _, Row.otherRow hH.2.2.2.2.1 (by omega) _, Below.row hH.2.2.2.2.2 (by omega) _⟩ (fun hHn => ?_)
          clear hK K
          try simp only [Act.put, List.setIfInBounds_toArray, List.set_cons_zero, List.set_cons_succ]
          have R5_24 := Row.setRow R5_23 de
          have R4_24 := Row.otherRow (g := g5) R4_23 (hne) (kv .u8 de).toArray
          clear hH
          have hH := hHn
          clear hHn
          refine wpAnyH_done (by kernel_rfl) ?_ _
          exact ⟨rfl, g4, g5, rfl, R4_24, R5_24, hne, hg4, hg5, hH.1, hH.2.1, hH.2.2.1, hH.2.2.2.1, hH.2.2.2.2.1, hH.2.2.2.2.2⟩
        · rw [if_pos (by rfl)]
          refine wp_alloc_row51 51 rfl _ _ info33 ?_
          refine hK.out _ _ ⟨Row.alloc hH.1 _, Blk.old hH.2.1 _, Row.alloc hH.2.2.1 _, Row.alloc hH.2.2.2.1 _, Row.alloc hH.2.2.2.2.1 _, hH.2.2.2.2.2.alloc (Nat.le_of_lt hH.1.lt) _⟩ (fun hHn => ?_)
          clear hK K
          try simp only [Act.put, List.setIfInBounds_toArray, List.set_cons_zero, List.set_cons_succ]
          have R5_25 := Row.alloc R5_20 (.cells (kv .u8 (List.replicate 68 0)).toArray 51)
          obtain ⟨g4, eg4, R4_25, hlt, hgs⟩ := new_row51 _ (B := A + 4) (hH.2.2.2.2.1.lt)
          try rw [← eg4] at hHn
          try rw [← eg4]
          have E4 := Kp.mk eg4
          clear eg4
          have hg4 : A + 4 < g4 := hlt
          have hne : g4 ≠ g5 := by have := Row.lt R5_20; have := E4.out; omega
          clear hlt hgs hH
          have hH := hHn
          clear hHn
          refine wpAnyH_ready (rs := [3]) (by kernel_rfl) (by simp) ?_
          refine AllReadyH.cons (o := { dst := some 19, op := Go.Op.call { callee := Go.Callee.value (Go.Operand.func 21), args := #[Go.Operand.tmp 18], argTypes := #[25] }, type := 51, pos := "ref.go:123", after := #[{ on := 2, ground := Go.Ground.data }, { on := 1, ground := Go.Ground.chain }], guard := none }) rfl (fun K hK => ?_) AllReadyH.nil
          go_simp
          refine (rdigits_any g _ HGg.out.1 HGg.out.2).mono ?_
          rintro r wn26 ⟨rfl, hb⟩
          rw [HD1.out]
          have R5_26 := Row.keep R5_25 hb
          have R4_26 := Row.keep R4_25 hb
          refine hK.out _ _ ⟨hH.1.keep hb, Blk.keep hH.2.1 hb, hH.2.2.1.keep hb, hH.2.2.2.1.keep hb, hH.2.2.2.2.1.keep hb, hH.2.2.2.2.2.trans (hb.mono (Nat.le_of_lt hH.1.lt))⟩ (fun hHn => ?_)
          clear hK K
          try simp only [Act.put, List.setIfInBounds_toArray, List.set_cons_zero, List.set_cons_succ]
          clear hb hH
          have hH := hHn
          clear hHn
          refine wpAnyH_ready (rs := [6]) (by kernel_rfl) (by simp) ?_
          refine AllReadyH.cons (o := { dst := none, op := Go.Op.store 51 (Go.Operand.tmp 11) (Go.Operand.tmp 17), type := 0, pos := "ref.go:123", after := #[{ on := 4, ground := Go.Ground.data }, { on := 1, ground := Go.Ground.data }, { on := 3, ground := Go.Ground.chain }, { on := 0, ground := Go.Ground.phase }, { on := 1, ground := Go.Ground.phase }, { on := 2, ground := Go.Ground.textOnly Go.Departure.lateStores }, { on := 3, ground := Go.Ground.textOnly Go.Departure.lateStoresUnsure }, { on := 4, ground := Go.Ground.phase }, { on := 5, ground := Go.Ground.phase }], guard := none }) rfl (fun K hK => ?_) AllReadyH.nil
          rw [if_pos (by rfl)]
          refine wp_store_row 51 (.tmp 11) (.tmp 17) rfl g4 (kv .u8 dm).toArray rfl rfl 51 _ R4_26 HC51_0.out HZ51_0.out (kv_all _ _) ?_
          refine hK.out _ _ ⟨Row.otherRow hH.1 (by omega) _, (setRow_other _ g4 (A + 1) _ (by omega)).trans hH.2.1, Row.otherRow hH.2.2.1 (by omega) _, Row.otherRow hH.2.2.2.1 (by omega) _, Row.otherRow hH.2.2.2.2.1 (by omega) _, Below.row hH.2.2.2.2.2 (by omega) _⟩ (fun hHn => ?_)
          clear hK K
          try simp only [Act.put, List.setIfInBounds_toArray, List.set_cons_zero, List.set_cons_succ]
          have R4_27 := Row.setRow R4_26 dm
          have R5_27 := Row.otherRow (g := g4) R5_26 (Ne.symm hne) (kv .u8 dm).toArray
          clear hH
          have hH := hHn
          clear hHn
          refine wpAnyH_ready (rs := [7]) (by kernel_rfl) (by simp) ?_
          refine AllReadyH.cons (o := { dst := none, op := Go.Op.store 51 (Go.Operand.tmp 12) (Go.Operand.tmp 19), type := 0, pos := "ref.go:123", after := #[{ on := 5, ground := Go.Ground.data }, { on := 3, ground := Go.Ground.data }, { on := 6, ground := Go.Ground.chain }, { on := 0, ground := Go.Ground.phase }, { on := 1, ground := Go.Ground.phase }, { on := 2, ground := Go.Ground.phase }, { on := 3, ground := Go.Ground.phase }, { on := 4, ground := Go.Ground.phase }, { on := 5, ground := Go.Ground.phase }, { on := 6, ground := Go.Ground.phase }], guard := none }) rfl (fun K hK => ?_) AllReadyH.nil
          rw [if_pos (by rfl)]
          refine wp_store_row 51 (.tmp 12) (.tmp 19) rfl g5 (kv .u8 de).toArray rfl rfl 51 _ R5_27 HC51_1.out HZ51_1.out (kv_all _ _) ?_
          refine hK.out _ _ ⟨Row.otherRow hH.1 (by omega) _, (setRow_other _ g5 (A + 1) _ (by omega)).trans hH.2.1, Row.otherRow hH.2.2.1 (by omega) _, Row.otherRow hH.2.2.2.1 (by omega) _, Row.otherRow hH.2.2.2.2.1 (by omega) _, Below.row hH.2.2.2.2.2 (by omega) _⟩ (fun hHn => ?_)
          clear hK K
          try simp only [Act.put, List.setIfInBounds_toArray, List.set_cons_zero, List.set_cons_succ]
          have R5_28 := Row.setRow R5_27 de
          have R4_28 := Row.otherRow (g := g5) R4_27 (hne) (kv .u8 de).toArray
          clear hH
          have hH := hHn
          clear hHn
          refine wpAnyH_done (by kernel_rfl) ?_ _
          exact ⟨rfl, g4, g5, rfl, R4_28, R5_28, hne, hg4, hg5, hH.1, hH.2.1, hH.2.2.1, hH.2.2.2.1, hH.2.2.2.2.1, hH.2.2.2.2.2⟩
    · rw [if_pos (by rfl)]
      refine wp_alloc_row51 51 rfl _ _ info33 ?_
      refine hK.out _ _ ⟨Row.alloc hH.1 _, Blk.old hH.2.1 _, Row.alloc hH.2.2.1 _, Row.alloc hH.2.2.2.1 _, Row.alloc hH.2.2.2.2.1 _, hH.2.2.2.2.2.alloc (Nat.le_of_lt hH.1.lt) _⟩ (fun hHn => ?_)
      clear hK K
      try simp only [Act.put, List.setIfInBounds_toArray, List.set_cons_zero, List.set_cons_succ]
      obtain ⟨g4, eg4, R4_29, hlt, hgs⟩ := new_row51 _ (B := A + 4) (hH.2.2.2.2.1.lt)
      try rw [← eg4] at hHn
      try rw [← eg4]
      have E4 := Kp.mk eg4
      clear eg4
      have hg4 : A + 4 < g4 := hlt
      clear hlt hgs hH
      have hH := hHn
      clear hHn
      refine wpAnyH_ready (rs := [1, 5]) (by kernel_rfl) (by simp) ?_
      refine AllReadyH.cons (o := { dst := some 17, op := Go.Op.call { callee := Go.Callee.value (Go.Operand.func 21), args := #[Go.Operand.tmp 16], argTypes := #[25] }, type := 51, pos := "ref.go:123", after := #[{ on := 0, ground := Go.Ground.data }], guard := none }) rfl (fun K hK => ?_) (AllReadyH.cons (o := { dst := some 12, op := Go.Op.alloc 51, type := 0, pos := "ref.go:123", after := #[], guard := none }) rfl (fun K hK => ?_) AllReadyH.nil)
      · go_simp
        refine (rdigits_any m _ HM.out.1 HM.out.2).mono ?_
        rintro r wn30 ⟨rfl, hb⟩
        rw [HD0.out]
        have R4_30 := Row.keep R4_29 hb
        refine hK.out _ _ ⟨hH.1.keep hb, Blk.keep hH.2.1 hb, hH.2.2.1.keep hb, hH.2.2.2.1.keep hb, hH.2.2.2.2.1.keep hb, hH.2.2.2.2.2.trans (hb.mono (Nat.le_of_lt hH.1.lt))⟩ (fun hHn => ?_)
        clear hK K
        try simp only [Act.put, List.setIfInBounds_toArray, List.set_cons_zero, List.set_cons_succ]
        clear hb hH
        have hH := hHn
        clear hHn
        refine wpAnyH_ready (rs := [3, 5]) (by kernel_rfl) (by simp) ?_
        refine AllReadyH.cons (o := { dst := some 19, op := Go.Op.call { callee := Go.Callee.value (Go.Operand.func 21), args := #[Go.Operand.tmp 18], argTypes := #[25] }, type := 51, pos := "ref.go:123", after := #[{ on := 2, ground := Go.Ground.data }, { on := 1, ground := Go.Ground.chain }], guard := none }) rfl (fun K hK => ?_) (AllReadyH.cons (o := { dst := some 12, op := Go.Op.alloc 51, type := 0, pos := "ref.go:123", after := #[], guard := none }) rfl (fun K hK => ?_) AllReadyH.nil)
        · go_simp
          refine (rdigits_any g _ HGg.out.1 HGg.out.2).mono ?_
          rintro r wn31 ⟨rfl, hb⟩
          rw [HD1.out]
          have R4_31 := Row.keep R4_30 hb
          refine hK.out _ _ ⟨hH.1.keep hb, Blk.keep hH.2.1 hb, hH.2.2.1.keep hb, hH.2.2.2.1.keep hb, hH.2.2.2.2.1.keep hb, hH.2.2.2.2.2.trans (hb.mono (Nat.le_of_lt hH.1.lt))⟩ (fun hHn => ?_)
          clear hK K
          try simp only [Act.put, List.setIfInBounds_toArray, List.set_cons_zero, List.set_cons_succ]
          clear hb hH
          have hH := hHn
          clear hHn
          refine wpAnyH_ready (rs := [5]) (by kernel_rfl) (by simp) ?_
          refine AllReadyH.cons (o := { dst := some 12, op := Go.Op.alloc 51, type := 0, pos := "ref.go:123", after := #[], guard := none }) rfl (fun K hK => ?_) AllReadyH.nil
          rw [if_pos (by rfl)]
          refine wp_alloc_row51 51 rfl _ _ info33 ?_
          refine hK.out _ _ ⟨Row.alloc hH.1 _, Blk.old hH.2.1 _, Row.alloc hH.2.2.1 _, Row.alloc hH.2.2.2.1 _, Row.alloc hH.2.2.2.2.1 _, hH.2.2.2.2.2.alloc (Nat.le_of_lt hH.1.lt) _⟩ (fun hHn => ?_)
          clear hK K
          try simp only [Act.put, List.setIfInBounds_toArray, List.set_cons_zero, List.set_cons_succ]
          have R4_32 := Row.alloc R4_31 (.cells (kv .u8 (List.replicate 68 0)).toArray 51)
          obtain ⟨g5, eg5, R5_32, hlt, hgs⟩ := new_row51 _ (B := A + 4) (hH.2.2.2.2.1.lt)
          try rw [← eg5] at hHn
          try rw [← eg5]
          have E5 := Kp.mk eg5
          clear eg5
          have hg5 : A + 4 < g5 := hlt
          have hne : g4 ≠ g5 := by have := Row.lt R4_31; have := E5.out; omega
          clear hlt hgs hH
          have hH := hHn
          clear hHn
          refine wpAnyH_ready (rs := [6]) (by kernel_rfl) (by simp) ?_
          refine AllReadyH.cons (o := { dst := none, op := Go.Op.store 51 (Go.Operand.tmp 11) (Go.Operand.tmp 17), type := 0, pos := "ref.go:123", after := #[{ on := 4, ground := Go.Ground.data }, { on := 1, ground := Go.Ground.data }, { on := 3, ground := Go.Ground.chain }, { on := 0, ground := Go.Ground.phase }, { on := 1, ground := Go.Ground.phase }, { on := 2, ground := Go.Ground.textOnly Go.Departure.lateStores }, { on := 3, ground := Go.Ground.textOnly Go.Departure.lateStoresUnsure }, { on := 4, ground := Go.Ground.phase }, { on := 5, ground := Go.Ground.phase }], guard := none }) rfl (fun K hK => ?_) AllReadyH.nil
          rw [if_pos (by rfl)]
          refine wp_store_row 51 (.tmp 11) (.tmp 17) rfl g4 (kv .u8 dm).toArray rfl rfl 51 _ R4_32 HC51_0.out HZ51_0.out (kv_all _ _) ?_
          refine hK.out _ _ ⟨Row.otherRow hH.1 (by omega) _, (setRow_other _ g4 (A + 1) _ (by omega)).trans hH.2.1, Row.otherRow hH.2.2.1 (by omega) _, Row.otherRow hH.2.2.2.1 (by omega) _, Row.otherRow hH.2.2.2.2.1 (by omega) _, Below.row hH.2.2.2.2.2 (by omega) _⟩ (fun hHn => ?_)
          clear hK K
          try simp only [Act.put, List.setIfInBounds_toArray, List.set_cons_zero, List.set_cons_succ]
          have R4_33 := Row.setRow R4_32 dm
          have R5_33 := Row.otherRow (g := g4) R5_32 (Ne.symm hne) (kv .u8 dm).toArray
          clear hH
          have hH := hHn
          clear hHn
          refine wpAnyH_ready (rs := [7]) (by kernel_rfl) (by simp) ?_
          refine AllReadyH.cons (o := { dst := none, op := Go.Op.store 51 (Go.Operand.tmp 12) (Go.Operand.tmp 19), type := 0, pos := "ref.go:123", after := #[{ on := 5, ground := Go.Ground.data }, { on := 3, ground := Go.Ground.data }, { on := 6, ground := Go.Ground.chain }, { on := 0, ground := Go.Ground.phase }, { on := 1, ground := Go.Ground.phase }, { on := 2, ground := Go.Ground.phase }, { on := 3, ground := Go.Ground.phase }, { on := 4, ground := Go.Ground.phase }, { on := 5, ground := Go.Ground.phase }, { on := 6, ground := Go.Ground.phase }], guard := none }) rfl (fun K hK => ?_) AllReadyH.nil
          rw [if_pos (by rfl)]
          refine wp_store_row 51 (.tmp 12) (.tmp 19) rfl g5 (kv .u8 de).toArray rfl rfl 51 _ R5_33 HC51_1.out HZ51_1.out (kv_all _ _) ?_
          refine hK.out _ _ ⟨Row.otherRow hH.1 (by omega) _, (setRow_other _ g5 (A + 1) _ (by omega)).trans hH.2.1, Row.otherRow hH.2.2.1 (by omega) _, Row.otherRow hH.2.2.2.1 (by omega) _, Row.otherRow hH.2.2.2.2.1 (by omega) _, Below.row hH.2.2.2.2.2 (by omega) _⟩ (fun hHn => ?_)
          clear hK K
          try simp only [Act.put, List.setIfInBounds_toArray, List.set_cons_zero, List.set_cons_succ]
          have R5_34 := Row.setRow R5_33 de
          have R4_34 := Row.otherRow (g := g5) R4_33 (hne) (kv .u8 de).toArray
          clear hH
          have hH := hHn
          clear hHn
          refine wpAnyH_done (by kernel_rfl) ?_ _
          exact ⟨rfl, g4, g5, rfl, R4_34, R5_34, hne, hg4, hg5, hH.1, hH.2.1, hH.2.2.1, hH.2.2.2.1, hH.2.2.2.2.1, hH.2.2.2.2.2⟩
        · rw [if_pos (by rfl)]
          refine wp_alloc_row51 51 rfl _ _ info33 ?_
          refine hK.out _ _ ⟨Row.alloc hH.1 _, Blk.old hH.2.1 _, Row.alloc hH.2.2.1 _, Row.alloc hH.2.2.2.1 _, Row.alloc hH.2.2.2.2.1 _, hH.2.2.2.2.2.alloc (Nat.le_of_lt hH.1.lt) _⟩ (fun hHn => ?_)
          clear hK K
          try simp only [Act.put, List.setIfInBounds_toArray, List.set_cons_zero, List.set_cons_succ]
          have R4_35 := Row.alloc R4_30 (.cells (kv .u8 (List.replicate 68 0)).toArray 51)
          obtain ⟨g5, eg5, R5_35, hlt, hgs⟩ := new_row51 _ (B := A + 4) (hH.2.2.2.2.1.lt)
          try rw [← eg5] at hHn
          try rw [← eg5]
          have E5 := Kp.mk eg5
          clear eg5
          have hg5 : A + 4 < g5 := hlt
          have hne : g4 ≠ g5 := by have := Row.lt R4_30; have := E5.out; omega
          clear hlt hgs hH
          have hH := hHn
          clear hHn
          refine wpAnyH_ready (rs := [3]) (by kernel_rfl) (by simp) ?_
          refine AllReadyH.cons (o := { dst := some 19, op := Go.Op.call { callee := Go.Callee.value (Go.Operand.func 21), args := #[Go.Operand.tmp 18], argTypes := #[25] }, type := 51, pos := "ref.go:123", after := #[{ on := 2, ground := Go.Ground.data }, { on := 1, ground := Go.Ground.chain }], guard := none }) rfl (fun K hK => ?_) AllReadyH.nil
          go_simp
          refine (rdigits_any g _ HGg.out.1 HGg.out.2).mono ?_
          rintro r wn36 ⟨rfl, hb⟩
          rw [HD1.out]
          have R4_36 := Row.keep R4_35 hb
          have R5_36 := Row.keep R5_35 hb
          refine hK.out _ _ ⟨hH.1.keep hb, Blk.keep hH.2.1 hb, hH.2.2.1.keep hb, hH.2.2.2.1.keep hb, hH.2.2.2.2.1.keep hb, hH.2.2.2.2.2.trans (hb.mono (Nat.le_of_lt hH.1.lt))⟩ (fun hHn => ?_)
          clear hK K
          try simp only [Act.put, List.setIfInBounds_toArray, List.set_cons_zero, List.set_cons_succ]
          clear hb hH
          have hH := hHn
          clear hHn
          refine wpAnyH_ready (rs := [6]) (by kernel_rfl) (by simp) ?_
          refine AllReadyH.cons (o := { dst := none, op := Go.Op.store 51 (Go.Operand.tmp 11) (Go.Operand.tmp 17), type := 0, pos := "ref.go:123", after := #[{ on := 4, ground := Go.Ground.data }, { on := 1, ground := Go.Ground.data }, { on := 3, ground := Go.Ground.chain }, { on := 0, ground := Go.Ground.phase }, { on := 1, ground := Go.Ground.phase }, { on := 2, ground := Go.Ground.textOnly Go.Departure.lateStores }, { on := 3, ground := Go.Ground.textOnly Go.Departure.lateStoresUnsure }, { on := 4, ground := Go.Ground.phase }, { on := 5, ground := Go.Ground.phase }], guard := none }) rfl (fun K hK => ?_) AllReadyH.nil
          rw [if_pos (by rfl)]
          refine wp_store_row 51 (.tmp 11) (.tmp 17) rfl g4 (kv .u8 dm).toArray rfl rfl 51 _ R4_36 HC51_0.out HZ51_0.out (kv_all _ _) ?_
          refine hK.out _ _ ⟨Row.otherRow hH.1 (by omega) _, (setRow_other _ g4 (A + 1) _ (by omega)).trans hH.2.1, Row.otherRow hH.2.2.1 (by omega) _, Row.otherRow hH.2.2.2.1 (by omega) _, Row.otherRow hH.2.2.2.2.1 (by omega) _, Below.row hH.2.2.2.2.2 (by omega) _⟩ (fun hHn => ?_)
          clear hK K
          try simp only [Act.put, List.setIfInBounds_toArray, List.set_cons_zero, List.set_cons_succ]
          have R4_37 := Row.setRow R4_36 dm
          have R5_37 := Row.otherRow (g := g4) R5_36 (Ne.symm hne) (kv .u8 dm).toArray
          clear hH
          have hH := hHn
          clear hHn
          refine wpAnyH_ready (rs := [7]) (by kernel_rfl) (by simp) ?_
          refine AllReadyH.cons (o := { dst := none, op := Go.Op.store 51 (Go.Operand.tmp 12) (Go.Operand.tmp 19), type := 0, pos := "ref.go:123", after := #[{ on := 5, ground := Go.Ground.data }, { on := 3, ground := Go.Ground.data }, { on := 6, ground := Go.Ground.chain }, { on := 0, ground := Go.Ground.phase }, { on := 1, ground := Go.Ground.phase }, { on := 2, ground := Go.Ground.phase }, { on := 3, ground := Go.Ground.phase }, { on := 4, ground := Go.Ground.phase }, { on := 5, ground := Go.Ground.phase }, { on := 6, ground := Go.Ground.phase }], guard := none }) rfl (fun K hK => ?_) AllReadyH.nil
          rw [if_pos (by rfl)]
          refine wp_store_row 51 (.tmp 12) (.tmp 19) rfl g5 (kv .u8 de).toArray rfl rfl 51 _ R5_37 HC51_1.out HZ51_1.out (kv_all _ _) ?_
          refine hK.out _ _ ⟨Row.otherRow hH.1 (by omega) _, (setRow_other _ g5 (A + 1) _ (by omega)).trans hH.2.1, Row.otherRow hH.2.2.1 (by omega) _, Row.otherRow hH.2.2.2.1 (by omega) _, Row.otherRow hH.2.2.2.2.1 (by omega) _, Below.row hH.2.2.2.2.2 (by omega) _⟩ (fun hHn => ?_)
          clear hK K
          try simp only [Act.put, List.setIfInBounds_toArray, List.set_cons_zero, List.set_cons_succ]
          have R5_38 := Row.setRow R5_37 de
          have R4_38 := Row.otherRow (g := g5) R4_37 (hne) (kv .u8 de).toArray
          clear hH
          have hH := hHn
          clear hHn
          refine wpAnyH_done (by kernel_rfl) ?_ _
          exact ⟨rfl, g4, g5, rfl, R4_38, R5_38, hne, hg4, hg5, hH.1, hH.2.1, hH.2.2.1, hH.2.2.2.1, hH.2.2.2.2.1, hH.2.2.2.2.2⟩
      · rw [if_pos (by rfl)]
        refine wp_alloc_row51 51 rfl _ _ info33 ?_
        refine hK.out _ _ ⟨Row.alloc hH.1 _, Blk.old hH.2.1 _, Row.alloc hH.2.2.1 _, Row.alloc hH.2.2.2.1 _, Row.alloc hH.2.2.2.2.1 _, hH.2.2.2.2.2.alloc (Nat.le_of_lt hH.1.lt) _⟩ (fun hHn => ?_)
        clear hK K
        try simp only [Act.put, List.setIfInBounds_toArray, List.set_cons_zero, List.set_cons_succ]
        have R4_39 := Row.alloc R4_29 (.cells (kv .u8 (List.replicate 68 0)).toArray 51)
        obtain ⟨g5, eg5, R5_39, hlt, hgs⟩ := new_row51 _ (B := A + 4) (hH.2.2.2.2.1.lt)
        try rw [← eg5] at hHn
        try rw [← eg5]
        have E5 := Kp.mk eg5
        clear eg5
        have hg5 : A + 4 < g5 := hlt
        have hne : g4 ≠ g5 := by have := Row.lt R4_29; have := E5.out; omega
        clear hlt hgs hH
        have hH := hHn
        clear hHn
        refine wpAnyH_ready (rs := [1]) (by kernel_rfl) (by simp) ?_
        refine AllReadyH.cons (o := { dst := some 17, op := Go.Op.call { callee := Go.Callee.value (Go.Operand.func 21), args := #[Go.Operand.tmp 16], argTypes := #[25] }, type := 51, pos := "ref.go:123", after := #[{ on := 0, ground := Go.Ground.data }], guard := none }) rfl (fun K hK => ?_) AllReadyH.nil
        go_simp
        refine (rdigits_any m _ HM.out.1 HM.out.2).mono ?_
        rintro r wn40 ⟨rfl, hb⟩
        rw [HD0.out]
        have R4_40 := Row.keep R4_39 hb
        have R5_40 := Row.keep R5_39 hb
        refine hK.out _ _ ⟨hH.1.keep hb, Blk.keep hH.2.1 hb, hH.2.2.1.keep hb, hH.2.2.2.1.keep hb, hH.2.2.2.2.1.keep hb, hH.2.2.2.2.2.trans (hb.mono (Nat.le_of_lt hH.1.lt))⟩ (fun hHn => ?_)
        clear hK K
        try simp only [Act.put, List.setIfInBounds_toArray, List.set_cons_zero, List.set_cons_succ]
        clear hb hH
        have hH := hHn
        clear hHn
        refine wpAnyH_ready (rs := [3]) (by kernel_rfl) (by simp) ?_
        refine AllReadyH.cons (o := { dst := some 19, op := Go.Op.call { callee := Go.Callee.value (Go.Operand.func 21), args := #[Go.Operand.tmp 18], argTypes := #[25] }, type := 51, pos := "ref.go:123", after := #[{ on := 2, ground := Go.Ground.data }, { on := 1, ground := Go.Ground.chain }], guard := none }) rfl (fun K hK => ?_) AllReadyH.nil
        go_simp
        refine (rdigits_any g _ HGg.out.1 HGg.out.2).mono ?_
        rintro r wn41 ⟨rfl, hb⟩
        rw [HD1.out]
        have R4_41 := Row.keep R4_40 hb
        have R5_41 := Row.keep R5_40 hb
        refine hK.out _ _ ⟨hH.1.keep hb, Blk.keep hH.2.1 hb, hH.2.2.1.keep hb, hH.2.2.2.1.keep hb, hH.2.2.2.2.1.keep hb, hH.2.2.2.2.2.trans (hb.mono (Nat.le_of_lt hH.1.lt))⟩ (fun hHn => ?_)
        clear hK K
        try simp only [Act.put, List.setIfInBounds_toArray, List.set_cons_zero, List.set_cons_succ]
        clear hb hH
        have hH := hHn
        clear hHn
        refine wpAnyH_ready (rs := [6]) (by kernel_rfl) (by simp) ?_
        refine AllReadyH.cons (o := { dst := none, op := Go.Op.store 51 (Go.Operand.tmp 11) (Go.Operand.tmp 17), type := 0, pos := "ref.go:123", after := #[{ on := 4, ground := Go.Ground.data }, { on := 1, ground := Go.Ground.data }, { on := 3, ground := Go.Ground.chain }, { on := 0, ground := Go.Ground.phase }, { on := 1, ground := Go.Ground.phase }, { on := 2, ground := Go.Ground.textOnly Go.Departure.lateStores }, { on := 3, ground := Go.Ground.textOnly Go.Departure.lateStoresUnsure }, { on := 4, ground := Go.Ground.phase }, { on := 5, ground := Go.Ground.phase }], guard := none }) rfl (fun K hK => ?_) AllReadyH.nil
        rw [if_pos (by rfl)]
        refine wp_store_row 51 (.tmp 11) (.tmp 17) rfl g4 (kv .u8 dm).toArray rfl rfl 51 _ R4_41 HC51_0.out HZ51_0.out (kv_all _ _) ?_
        refine hK.out _ _ ⟨Row.otherRow hH.1 (by omega) _, (setRow_other _ g4 (A + 1) _ (by omega)).trans hH.2.1, Row.otherRow hH.2.2.1 (by omega) _, Row.otherRow hH.2.2.2.1 (by omega) _, Row.otherRow hH.2.2.2.2.1 (by omega) _, Below.row hH.2.2.2.2.2 (by omega) _⟩ (fun hHn => ?_)
        clear hK K
        try simp only [Act.put, List.setIfInBounds_toArray, List.set_cons_zero, List.set_cons_succ]
        have R4_42 := Row.setRow R4_41 dm
        have R5_42 := Row.otherRow (g := g4) R5_41 (Ne.symm hne) (kv .u8 dm).toArray
        clear hH
        have hH := hHn
        clear hHn
        refine wpAnyH_ready (rs := [7]) (by kernel_rfl) (by simp) ?_
        refine AllReadyH.cons (o := { dst := none, op := Go.Op.store 51 (Go.Operand.tmp 12) (Go.Operand.tmp 19), type := 0, pos := "ref.go:123", after := #[{ on := 5, ground := Go.Ground.data }, { on := 3, ground := Go.Ground.data }, { on := 6, ground := Go.Ground.chain }, { on := 0, ground := Go.Ground.phase }, { on := 1, ground := Go.Ground.phase }, { on := 2, ground := Go.Ground.phase }, { on := 3, ground := Go.Ground.phase }, { on := 4, ground := Go.Ground.phase }, { on := 5, ground := Go.Ground.phase }, { on := 6, ground := Go.Ground.phase }], guard := none }) rfl (fun K hK => ?_) AllReadyH.nil
        rw [if_pos (by rfl)]
        refine wp_store_row 51 (.tmp 12) (.tmp 19) rfl g5 (kv .u8 de).toArray rfl rfl 51 _ R5_42 HC51_1.out HZ51_1.out (kv_all _ _) ?_
        refine hK.out _ _ ⟨Row.otherRow hH.1 (by omega) _, (setRow_other _ g5 (A + 1) _ (by omega)).trans hH.2.1, Row.otherRow hH.2.2.1 (by omega) _, Row.otherRow hH.2.2.2.1 (by omega) _, Row.otherRow hH.2.2.2.2.1 (by omega) _, Below.row hH.2.2.2.2.2 (by omega) _⟩ (fun hHn => ?_)
        clear hK K
        try simp only [Act.put, List.setIfInBounds_toArray, List.set_cons_zero, List.set_cons_succ]
        have R5_43 := Row.setRow R5_42 de
        have R4_43 := Row.otherRow (g := g5) R4_42 (hne) (kv .u8 de).toArray
        clear hH
        have hH := hHn
        clear hHn
        refine wpAnyH_done (by kernel_rfl) ?_ _
        exact ⟨rfl, g4, g5, rfl, R4_43, R5_43, hne, hg4, hg5, hH.1, hH.2.1, hH.2.2.1, hH.2.2.2.1, hH.2.2.2.2.1, hH.2.2.2.2.2⟩
    · rw [if_pos (by rfl)]
      refine wp_alloc_row51 51 rfl _ _ info33 ?_
      refine hK.out _ _ ⟨Row.alloc hH.1 _, Blk.old hH.2.1 _, Row.alloc hH.2.2.1 _, Row.alloc hH.2.2.2.1 _, Row.alloc hH.2.2.2.2.1 _, hH.2.2.2.2.2.alloc (Nat.le_of_lt hH.1.lt) _⟩ (fun hHn => ?_)
      clear hK K
      try simp only [Act.put, List.setIfInBounds_toArray, List.set_cons_zero, List.set_cons_succ]
      obtain ⟨g5, eg5, R5_44, hlt, hgs⟩ := new_row51 _ (B := A + 4) (hH.2.2.2.2.1.lt)
      try rw [← eg5] at hHn
      try rw [← eg5]
      have E5 := Kp.mk eg5
      clear eg5
      have hg5 : A + 4 < g5 := hlt
      clear hlt hgs hH
      have hH := hHn
      clear hHn
      refine wpAnyH_ready (rs := [1, 4]) (by kernel_rfl) (by simp) ?_
      refine AllReadyH.cons (o := { dst := some 17, op := Go.Op.call { callee := Go.Callee.value (Go.Operand.func 21), args := #[Go.Operand.tmp 16], argTypes := #[25] }, type := 51, pos := "ref.go:123", after := #[{ on := 0, ground := Go.Ground.data }], guard := none }) rfl (fun K hK => ?_) (AllReadyH.cons (o := { dst := some 11, op := Go.Op.alloc 51, type := 0, pos := "ref.go:123", after := #[], guard := none }) rfl (fun K hK => ?_) AllReadyH.nil)
      · go_simp
        refine (rdigits_any m _ HM.out.1 HM.out.2).mono ?_
        rintro r wn45 ⟨rfl, hb⟩
        rw [HD0.out]
        have R5_45 := Row.keep R5_44 hb
        refine hK.out _ _ ⟨hH.1.keep hb, Blk.keep hH.2.1 hb, hH.2.2.1.keep hb, hH.2.2.2.1.keep hb, hH.2.2.2.2.1.keep hb, hH.2.2.2.2.2.trans (hb.mono (Nat.le_of_lt hH.1.lt))⟩ (fun hHn => ?_)
        clear hK K
        try simp only [Act.put, List.setIfInBounds_toArray, List.set_cons_zero, List.set_cons_succ]
        clear hb hH
        have hH := hHn
        clear hHn
        refine wpAnyH_ready (rs := [3, 4]) (by kernel_rfl) (by simp) ?_
        refine AllReadyH.cons (o := { dst := some 19, op := Go.Op.call { callee := Go.Callee.value (Go.Operand.func 21), args := #[Go.Operand.tmp 18], argTypes := #[25] }, type := 51, pos := "ref.go:123", after := #[{ on := 2, ground := Go.Ground.data }, { on := 1, ground := Go.Ground.chain }], guard := none }) rfl (fun K hK => ?_) (AllReadyH.cons (o := { dst := some 11, op := Go.Op.alloc 51, type := 0, pos := "ref.go:123", after := #[], guard := none }) rfl (fun K hK => ?_) AllReadyH.nil)
        · go_simp
          refine (rdigits_any g _ HGg.out.1 HGg.out.2).mono ?_
          rintro r wn46 ⟨rfl, hb⟩
          rw [HD1.out]
          have R5_46 := Row.keep R5_45 hb
          refine hK.out _ _ ⟨hH.1.keep hb, Blk.keep hH.2.1 hb, hH.2.2.1.keep hb, hH.2.2.2.1.keep hb, hH.2.2.2.2.1.keep hb, hH.2.2.2.2.2.trans (hb.mono (Nat.le_of_lt hH.1.lt))⟩ (fun hHn => ?_)
          clear hK K
          try simp only [Act.put, List.setIfInBounds_toArray, List.set_cons_zero, List.set_cons_succ]
          clear hb hH
          have hH := hHn
          clear hHn
          refine wpAnyH_ready (rs := [4]) (by kernel_rfl) (by simp) ?_
          refine AllReadyH.cons (o := { dst := some 11, op := Go.Op.alloc 51, type := 0, pos := "ref.go:123", after := #[], guard := none }) rfl (fun K hK => ?_) AllReadyH.nil
          rw [if_pos (by rfl)]
          refine wp_alloc_row51 51 rfl _ _ info33 ?_
          refine hK.out _ _ ⟨Row.alloc hH.1 _, Blk.old hH.2.1 _, Row.alloc hH.2.2.1 _, Row.alloc hH.2.2.2.1 _, Row.alloc hH.2.2.2.2.1 _, hH.2.2.2.2.2.alloc (Nat.le_of_lt hH.1.lt) _⟩ (fun hHn => ?_)
          clear hK K
          try simp only [Act.put, List.setIfInBounds_toArray, List.set_cons_zero, List.set_cons_succ]
          have R5_47 := Row.alloc R5_46 (.cells (kv .u8 (List.replicate 68 0)).toArray 51)
          obtain ⟨g4, eg4, R4_47, hlt, hgs⟩ := new_row51 _ (B := A + 4) (hH.2.2.2.2.1.lt)
          try rw [← eg4] at hHn
          try rw [← eg4]
          have E4 := Kp.mk eg4
          clear eg4
          have hg4 : A + 4 < g4 := hlt
          have hne : g4 ≠ g5 := by have := Row.lt R5_46; have := E4.out; omega
          clear hlt hgs hH
          have hH := hHn
          clear hHn
          refine wpAnyH_ready (rs := [6]) (by kernel_rfl) (by simp) ?_
          refine AllReadyH.cons (o := { dst := none, op := Go.Op.store 51 (Go.Operand.tmp 11) (Go.Operand.tmp 17), type := 0, pos := "ref.go:123", after := #[{ on := 4, ground := Go.Ground.data }, { on := 1, ground := Go.Ground.data }, { on := 3, ground := Go.Ground.chain }, { on := 0, ground := Go.Ground.phase }, { on := 1, ground := Go.Ground.phase }, { on := 2, ground := Go.Ground.textOnly Go.Departure.lateStores }, { on := 3, ground := Go.Ground.textOnly Go.Departure.lateStoresUnsure }, { on := 4, ground := Go.Ground.phase }, { on := 5, ground := Go.Ground.phase }], guard := none }) rfl (fun K hK => ?_) AllReadyH.nil
          rw [if_pos (by rfl)]
          refine wp_store_row 51 (.tmp 11) (.tmp 17) rfl g4 (kv .u8 dm).toArray rfl rfl 51 _ R4_47 HC51_0.out HZ51_0.out (kv_all _ _) ?_
          refine hK.out _ _ ⟨Row.otherRow hH.1 (by omega) _, (setRow_other _ g4 (A + 1) _ (by omega)).trans hH.2.1, Row.otherRow hH.2.2.1 (by omega) _, Row.otherRow hH.2.2.2.1 (by omega) _, Row.otherRow hH.2.2.2.2.1 (by omega) _, Below.row hH.2.2.2.2.2 (by omega) _⟩ (fun hHn => ?_)
          clear hK K
          try simp only [Act.put, List.setIfInBounds_toArray, List.set_cons_zero, List.set_cons_succ]
          have R4_48 := Row.setRow R4_47 dm
          have R5_48 := Row.otherRow (g := g4) R5_47 (Ne.symm hne) (kv .u8 dm).toArray
          clear hH
          have hH := hHn
          clear hHn
          refine wpAnyH_ready (rs := [7]) (by kernel_rfl) (by simp) ?_
          refine AllReadyH.cons (o := { dst := none, op := Go.Op.store 51 (Go.Operand.tmp 12) (Go.Operand.tmp 19), type := 0, pos := "ref.go:123", after := #[{ on := 5, ground := Go.Ground.data }, { on := 3, ground := Go.Ground.data }, { on := 6, ground := Go.Ground.chain }, { on := 0, ground := Go.Ground.phase }, { on := 1, ground := Go.Ground.phase }, { on := 2, ground := Go.Ground.phase }, { on := 3, ground := Go.Ground.phase }, { on := 4, ground := Go.Ground.phase }, { on := 5, ground := Go.Ground.phase }, { on := 6, ground := Go.Ground.phase }], guard := none }) rfl (fun K hK => ?_) AllReadyH.nil
          rw [if_pos (by rfl)]
          refine wp_store_row 51 (.tmp 12) (.tmp 19) rfl g5 (kv .u8 de).toArray rfl rfl 51 _ R5_48 HC51_1.out HZ51_1.out (kv_all _ _) ?_
          refine hK.out _ _ ⟨Row.otherRow hH.1 (by omega) _, (setRow_other _ g5 (A + 1) _ (by omega)).trans hH.2.1, Row.otherRow hH.2.2.1 (by omega) _, Row.otherRow hH.2.2.2.1 (by omega) _, Row.otherRow hH.2.2.2.2.1 (by omega) _, Below.row hH.2.2.2.2.2 (by omega) _⟩ (fun hHn => ?_)
          clear hK K
          try simp only [Act.put, List.setIfInBounds_toArray, List.set_cons_zero, List.set_cons_succ]
          have R5_49 := Row.setRow R5_48 de
          have R4_49 := Row.otherRow (g := g5) R4_48 (hne) (kv .u8 de).toArray
          clear hH
          have hH := hHn
          clear hHn
          refine wpAnyH_done (by kernel_rfl) ?_ _
          exact ⟨rfl, g4, g5, rfl, R4_49, R5_49, hne, hg4, hg5, hH.1, hH.2.1, hH.2.2.1, hH.2.2.2.1, hH.2.2.2.2.1, hH.2.2.2.2.2⟩
        · rw [if_pos (by rfl)]
          refine wp_alloc_row51 51 rfl _ _ info33 ?_
          refine hK.out _ _ ⟨Row.alloc hH.1 _, Blk.old hH.2.1 _, Row.alloc hH.2.2.1 _, Row.alloc hH.2.2.2.1 _, Row.alloc hH.2.2.2.2.1 _, hH.2.2.2.2.2.alloc (Nat.le_of_lt hH.1.lt) _⟩ (fun hHn => ?_)
          clear hK K
          try simp only [Act.put, List.setIfInBounds_toArray, List.set_cons_zero, List.set_cons_succ]
          have R5_50 := Row.alloc R5_45 (.cells (kv .u8 (List.replicate 68 0)).toArray 51)
          obtain ⟨g4, eg4, R4_50, hlt, hgs⟩ := new_row51 _ (B := A + 4) (hH.2.2.2.2.1.lt)
          try rw [← eg4] at hHn
          try rw [← eg4]
          have E4 := Kp.mk eg4
          clear eg4
          have hg4 : A + 4 < g4 := hlt
          have hne : g4 ≠ g5 := by have := Row.lt R5_45; have := E4.out; omega
          clear hlt hgs hH
          have hH := hHn
          clear hHn
          refine wpAnyH_ready (rs := [3]) (by kernel_rfl) (by simp) ?_
          refine AllReadyH.cons (o := { dst := some 19, op := Go.Op.call { callee := Go.Callee.value (Go.Operand.func 21), args := #[Go.Operand.tmp 18], argTypes := #[25] }, type := 51, pos := "ref.go:123", after := #[{ on := 2, ground := Go.Ground.data }, { on := 1, ground := Go.Ground.chain }], guard := none }) rfl (fun K hK => ?_) AllReadyH.nil
          go_simp
          refine (rdigits_any g _ HGg.out.1 HGg.out.2).mono ?_
          rintro r wn51 ⟨rfl, hb⟩
          rw [HD1.out]
          have R5_51 := Row.keep R5_50 hb
          have R4_51 := Row.keep R4_50 hb
          refine hK.out _ _ ⟨hH.1.keep hb, Blk.keep hH.2.1 hb, hH.2.2.1.keep hb, hH.2.2.2.1.keep hb, hH.2.2.2.2.1.keep hb, hH.2.2.2.2.2.trans (hb.mono (Nat.le_of_lt hH.1.lt))⟩ (fun hHn => ?_)
          clear hK K
          try simp only [Act.put, List.setIfInBounds_toArray, List.set_cons_zero, List.set_cons_succ]
          clear hb hH
          have hH := hHn
          clear hHn
          refine wpAnyH_ready (rs := [6]) (by kernel_rfl) (by simp) ?_
          refine AllReadyH.cons (o := { dst := none, op := Go.Op.store 51 (Go.Operand.tmp 11) (Go.Operand.tmp 17), type := 0, pos := "ref.go:123", after := #[{ on := 4, ground := Go.Ground.data }, { on := 1, ground := Go.Ground.data }, { on := 3, ground := Go.Ground.chain }, { on := 0, ground := Go.Ground.phase }, { on := 1, ground := Go.Ground.phase }, { on := 2, ground := Go.Ground.textOnly Go.Departure.lateStores }, { on := 3, ground := Go.Ground.textOnly Go.Departure.lateStoresUnsure }, { on := 4, ground := Go.Ground.phase }, { on := 5, ground := Go.Ground.phase }], guard := none }) rfl (fun K hK => ?_) AllReadyH.nil
          rw [if_pos (by rfl)]
          refine wp_store_row 51 (.tmp 11) (.tmp 17) rfl g4 (kv .u8 dm).toArray rfl rfl 51 _ R4_51 HC51_0.out HZ51_0.out (kv_all _ _) ?_
          refine hK.out _ _ ⟨Row.otherRow hH.1 (by omega) _, (setRow_other _ g4 (A + 1) _ (by omega)).trans hH.2.1, Row.otherRow hH.2.2.1 (by omega) _, Row.otherRow hH.2.2.2.1 (by omega) _, Row.otherRow hH.2.2.2.2.1 (by omega) _, Below.row hH.2.2.2.2.2 (by omega) _⟩ (fun hHn => ?_)
          clear hK K
          try simp only [Act.put, List.setIfInBounds_toArray, List.set_cons_zero, List.set_cons_succ]
          have R4_52 := Row.setRow R4_51 dm
          have R5_52 := Row.otherRow (g := g4) R5_51 (Ne.symm hne) (kv .u8 dm).toArray
          clear hH
          have hH := hHn
          clear hHn
          refine wpAnyH_ready (rs := [7]) (by kernel_rfl) (by simp) ?_
          refine AllReadyH.cons (o := { dst := none, op := Go.Op.store 51 (Go.Operand.tmp 12) (Go.Operand.tmp 19), type := 0, pos := "ref.go:123", after := #[{ on := 5, ground := Go.Ground.data }, { on := 3, ground := Go.Ground.data }, { on := 6, ground := Go.Ground.chain }, { on := 0, ground := Go.Ground.phase }, { on := 1, ground := Go.Ground.phase }, { on := 2, ground := Go.Ground.phase }, { on := 3, ground := Go.Ground.phase }, { on := 4, ground := Go.Ground.phase }, { on := 5, ground := Go.Ground.phase }, { on := 6, ground := Go.Ground.phase }], guard := none }) rfl (fun K hK => ?_) AllReadyH.nil
          rw [if_pos (by rfl)]
          refine wp_store_row 51 (.tmp 12) (.tmp 19) rfl g5 (kv .u8 de).toArray rfl rfl 51 _ R5_52 HC51_1.out HZ51_1.out (kv_all _ _) ?_
          refine hK.out _ _ ⟨Row.otherRow hH.1 (by omega) _, (setRow_other _ g5 (A + 1) _ (by omega)).trans hH.2.1, Row.otherRow hH.2.2.1 (by omega) _, Row.otherRow hH.2.2.2.1 (by omega) _, Row.otherRow hH.2.2.2.2.1 (by omega) _, Below.row hH.2.2.2.2.2 (by omega) _⟩ (fun hHn => ?_)
          clear hK K
          try simp only [Act.put, List.setIfInBounds_toArray, List.set_cons_zero, List.set_cons_succ]
          have R5_53 := Row.setRow R5_52 de
          have R4_53 := Row.otherRow (g := g5) R4_52 (hne) (kv .u8 de).toArray
          clear hH
          have hH := hHn
          clear hHn
          refine wpAnyH_done (by kernel_rfl) ?_ _
          exact ⟨rfl, g4, g5, rfl, R4_53, R5_53, hne, hg4, hg5, hH.1, hH.2.1, hH.2.2.1, hH.2.2.2.1, hH.2.2.2.2.1, hH.2.2.2.2.2⟩
      · rw [if_pos (by rfl)]
        refine wp_alloc_row51 51 rfl _ _ info33 ?_
        refine hK.out _ _ ⟨Row.alloc hH.1 _, Blk.old hH.2.1 _, Row.alloc hH.2.2.1 _, Row.alloc hH.2.2.2.1 _, Row.alloc hH.2.2.2.2.1 _, hH.2.2.2.2.2.alloc (Nat.le_of_lt hH.1.lt) _⟩ (fun hHn => ?_)
        clear hK K
        try simp only [Act.put, List.setIfInBounds_toArray, List.set_cons_zero, List.set_cons_succ]
        have R5_54 := Row.alloc R5_44 (.cells (kv .u8 (List.replicate 68 0)).toArray 51)
        obtain ⟨g4, eg4, R4_54, hlt, hgs⟩ := new_row51 _ (B := A + 4) (hH.2.2.2.2.1.lt)
        try rw [← eg4] at hHn
        try rw [← eg4]
        have E4 := Kp.mk eg4
        clear eg4
        have hg4 : A + 4 < g4 := hlt
        have hne : g4 ≠ g5 := by have := Row.lt R5_44; have := E4.out; omega
        clear hlt hgs hH
        have hH := hHn
        clear hHn
        refine wpAnyH_ready (rs := [1]) (by kernel_rfl) (by simp) ?_
        refine AllReadyH.cons (o := { dst := some 17, op := Go.Op.call { callee := Go.Callee.value (Go.Operand.func 21), args := #[Go.Operand.tmp 16], argTypes := #[25] }, type := 51, pos := "ref.go:123", after := #[{ on := 0, ground := Go.Ground.data }], guard := none }) rfl (fun K hK => ?_) AllReadyH.nil
        go_simp
        refine (rdigits_any m _ HM.out.1 HM.out.2).mono ?_
        rintro r wn55 ⟨rfl, hb⟩
        rw [HD0.out]
        have R5_55 := Row.keep R5_54 hb
        have R4_55 := Row.keep R4_54 hb
        refine hK.out _ _ ⟨hH.1.keep hb, Blk.keep hH.2.1 hb, hH.2.2.1.keep hb, hH.2.2.2.1.keep hb, hH.2.2.2.2.1.keep hb, hH.2.2.2.2.2.trans (hb.mono (Nat.le_of_lt hH.1.lt))⟩ (fun hHn => ?_)
        clear hK K
        try simp only [Act.put, List.setIfInBounds_toArray, List.set_cons_zero, List.set_cons_succ]
        clear hb hH
        have hH := hHn
        clear hHn
        refine wpAnyH_ready (rs := [3]) (by kernel_rfl) (by simp) ?_
        refine AllReadyH.cons (o := { dst := some 19, op := Go.Op.call { callee := Go.Callee.value (Go.Operand.func 21), args := #[Go.Operand.tmp 18], argTypes := #[25] }, type := 51, pos := "ref.go:123", after := #[{ on := 2, ground := Go.Ground.data }, { on := 1, ground := Go.Ground.chain }], guard := none }) rfl (fun K hK => ?_) AllReadyH.nil
        go_simp
        refine (rdigits_any g _ HGg.out.1 HGg.out.2).mono ?_
        rintro r wn56 ⟨rfl, hb⟩
        rw [HD1.out]
        have R5_56 := Row.keep R5_55 hb
        have R4_56 := Row.keep R4_55 hb
        refine hK.out _ _ ⟨hH.1.keep hb, Blk.keep hH.2.1 hb, hH.2.2.1.keep hb, hH.2.2.2.1.keep hb, hH.2.2.2.2.1.keep hb, hH.2.2.2.2.2.trans (hb.mono (Nat.le_of_lt hH.1.lt))⟩ (fun hHn => ?_)
        clear hK K
        try simp only [Act.put, List.setIfInBounds_toArray, List.set_cons_zero, List.set_cons_succ]
        clear hb hH
        have hH := hHn
        clear hHn
        refine wpAnyH_ready (rs := [6]) (by kernel_rfl) (by simp) ?_
        refine AllReadyH.cons (o := { dst := none, op := Go.Op.store 51 (Go.Operand.tmp 11) (Go.Operand.tmp 17), type := 0, pos := "ref.go:123", after := #[{ on := 4, ground := Go.Ground.data }, { on := 1, ground := Go.Ground.data }, { on := 3, ground := Go.Ground.chain }, { on := 0, ground := Go.Ground.phase }, { on := 1, ground := Go.Ground.phase }, { on := 2, ground := Go.Ground.textOnly Go.Departure.lateStores }, { on := 3, ground := Go.Ground.textOnly Go.Departure.lateStoresUnsure }, { on := 4, ground := Go.Ground.phase }, { on := 5, ground := Go.Ground.phase }], guard := none }) rfl (fun K hK => ?_) AllReadyH.nil
        rw [if_pos (by rfl)]
        refine wp_store_row 51 (.tmp 11) (.tmp 17) rfl g4 (kv .u8 dm).toArray rfl rfl 51 _ R4_56 HC51_0.out HZ51_0.out (kv_all _ _) ?_
        refine hK.out _ _ ⟨Row.otherRow hH.1 (by omega) _, (setRow_other _ g4 (A + 1) _ (by omega)).trans hH.2.1, Row.otherRow hH.2.2.1 (by omega) _, Row.otherRow hH.2.2.2.1 (by omega) _, Row.otherRow hH.2.2.2.2.1 (by omega) _, Below.row hH.2.2.2.2.2 (by omega) _⟩ (fun hHn => ?_)
        clear hK K
        try simp only [Act.put, List.setIfInBounds_toArray, List.set_cons_zero, List.set_cons_succ]
        have R4_57 := Row.setRow R4_56 dm
        have R5_57 := Row.otherRow (g := g4) R5_56 (Ne.symm hne) (kv .u8 dm).toArray
        clear hH
        have hH := hHn
        clear hHn
        refine wpAnyH_ready (rs := [7]) (by kernel_rfl) (by simp) ?_
        refine AllReadyH.cons (o := { dst := none, op := Go.Op.store 51 (Go.Operand.tmp 12) (Go.Operand.tmp 19), type := 0, pos := "ref.go:123", after := #[{ on := 5, ground := Go.Ground.data }, { on := 3, ground := Go.Ground.data }, { on := 6, ground := Go.Ground.chain }, { on := 0, ground := Go.Ground.phase }, { on := 1, ground := Go.Ground.phase }, { on := 2, ground := Go.Ground.phase }, { on := 3, ground := Go.Ground.phase }, { on := 4, ground := Go.Ground.phase }, { on := 5, ground := Go.Ground.phase }, { on := 6, ground := Go.Ground.phase }], guard := none }) rfl (fun K hK => ?_) AllReadyH.nil
        rw [if_pos (by rfl)]
        refine wp_store_row 51 (.tmp 12) (.tmp 19) rfl g5 (kv .u8 de).toArray rfl rfl 51 _ R5_57 HC51_1.out HZ51_1.out (kv_all _ _) ?_
        refine hK.out _ _ ⟨Row.otherRow hH.1 (by omega) _, (setRow_other _ g5 (A + 1) _ (by omega)).trans hH.2.1, Row.otherRow hH.2.2.1 (by omega) _, Row.otherRow hH.2.2.2.1 (by omega) _, Row.otherRow hH.2.2.2.2.1 (by omega) _, Below.row hH.2.2.2.2.2 (by omega) _⟩ (fun hHn => ?_)
        clear hK K
        try simp only [Act.put, List.setIfInBounds_toArray, List.set_cons_zero, List.set_cons_succ]
        have R5_58 := Row.setRow R5_57 de
        have R4_58 := Row.otherRow (g := g5) R4_57 (hne) (kv .u8 de).toArray
        clear hH
        have hH := hHn
        clear hHn
        refine wpAnyH_done (by kernel_rfl) ?_ _
        exact ⟨rfl, g4, g5, rfl, R4_58, R5_58, hne, hg4, hg5, hH.1, hH.2.1, hH.2.2.1, hH.2.2.2.1, hH.2.2.2.2.1, hH.2.2.2.2.2⟩
  rintro g4 g5 w3 ⟨h1, h2, hne, hg4, hg5, h3, h4, _, _, h5, h6⟩
  have I6 := Kp.mk h1
  have I7 := Kp.mk h2
  have I1 := Kp.mk h3
  have I2 := Kp.mk h4
  have I5 := Kp.mk h5
  have I4 := Kp.mk h6
  clear h1 h2 h3 h4 h5 h6 G1 G2 G3 G4 G5 G6
  simp only [Act.put, List.setIfInBounds_toArray, List.set_cons_zero, List.set_cons_succ]
  go_wp2_with fail
  go_loopw [13] (fun c wr => ∃ k : Nat, k ≤ 68 ∧ c = .int .i64 k ∧ Kp (∀ c, c < k → ¬ (dgt m c < dgt g c ∧ ownS s d x c (dgt m c) = linkAt S c)) ∧ Kp (Row wr A 35 .u8 s) ∧ Kp (Blk wr (A + 1) (.cells #[.int .i64 d, .int .u32 x] 24)) ∧ Kp (Row wr (A + 4) 43 .u8 S) ∧ Kp (Row wr g4 51 .u8 dm) ∧ Kp (Row wr g5 51 .u8 de) ∧ Kp (Below A w wr)) (fun c _ => 68 - (intOf c).toNat)
  case atStart => exact ⟨0, by omega, rfl, ⟨fun c h => by omega⟩, I1, I2, I5, I6, I7, I4⟩
  case round =>
    obtain ⟨k, hk, rfl, HN, F1, F2, F5, F6, F7, F4⟩ := hrel
    clear I1 I2 I4 I5 I6 I7
    by_cases hlt : k < 68
    · have hlt' : (k : Int) < 68 := by omega
      obtain ⟨hd1, hd2⟩ := HDG.out k hlt
      obtain ⟨hm1, hm2⟩ := dgt_is m k
      obtain ⟨hn1, hn2⟩ := dgt_is g k
      obtain ⟨u, hu⟩ : ∃ u, u = ownS s d x k (dgt m k) := ⟨_, rfl⟩
      have HUl : Kp (u.length = 16) := ⟨by rw [hu]; exact ownS_len _ _ _ _ _⟩
      have HUb : Kp (Bytes u) := ⟨by rw [hu]; exact ownS_bytes _ _ _ _ _⟩
      obtain ⟨z, hz⟩ : ∃ z, z = ownS s d x k 0 := ⟨_, rfl⟩
      have HZ := Kp.mk hz
      have HZl : Kp (z.length = 16) := ⟨by rw [hz]; exact ownS_len _ _ _ _ _⟩
      have HZb : Kp (Bytes z) := ⟨by rw [hz]; exact ownS_bytes _ _ _ _ _⟩
      obtain ⟨z2, hz2⟩ : ∃ z2, z2 = linkAt S k := ⟨_, rfl⟩
      have HZ2 : Kp (z2 = (S.drop (k * 16)).take 16) := ⟨hz2⟩
      have HZ2l : Kp (z2.length = 16) := ⟨by rw [hz2]; exact linkAt_len HSS.out.1 hlt⟩
      have HZ2b : Kp (Bytes z2) := ⟨by rw [hz2]; exact linkAt_bytes HSS.out.2 k⟩
      have HU : Kp (u = runS d x k 0 z (dgt m k)) := ⟨by rw [hu, hz]; rfl⟩
      have HC := Kp.mk (cellsT25 HUl.out)
      have HZ16 := Kp.mk (size50 HUl.out)
      obtain ⟨gm, hgm⟩ : ∃ n, n = dgt m k := ⟨_, rfl⟩
      obtain ⟨ge, hge⟩ : ∃ n, n = dgt g k := ⟨_, rfl⟩
      have HIQ : Kp ((dgt m k < dgt g k ∧ ownS s d x k (dgt m k) = linkAt S k) ↔ (gm < ge ∧ u = z2)) := ⟨by rw [hgm, hge, hu, hz2]⟩
      rw [← hgm] at hm1 hm2 HU
      rw [← hge] at hn1 hn2
      rw [← hm1] at hd1
      rw [← hn1] at hd2
      have hdk := Kp.mk (And.intro hd1 hd2)
      clear hd1 hd2 hm1 hn1 hgm hge hu hz hz2
      go_wp2_with fail
      refine wp_region_predQ (fun w' => Row w' A 35 .u8 s ∧ Blk w' (A + 1) (.cells #[.int .i64 d, .int .u32 x] 24) ∧ Row w' g4 51 .u8 dm ∧ Row w' g5 51 .u8 de ∧ Row w' (A + 4) 43 .u8 S ∧ Below A w w') [0, 1, 2, 3, 4, 5, 6, 7, 8, 9, 10, 11, 12, 13, 14] [13] [15, 16]
        (fun ι w' v => match ι with
          | 0 | 7 => v = nameV d x
          | 1 | 2 | 8 => v = .int .i64 k
          | 3 => v = .pointer (some ⟨g4, k, none⟩)
          | 4 => v = .int .u8 gm
          | 5 => v = .int .i64 gm
          | 6 => v = .agg (kv .u8 s).toArray
          | 9 => v = dgV z
          | 12 => v = dgV u
          | 10 => ∃ t, v = .tuple #[dgV u, t]
          | 11 => ∃ t, v = .tuple #[dgV u, t]
          | 13 => True
          | 14 => ∃ gq, v = .pointer (some ⟨gq, 0, none⟩) ∧ (g4 < gq ∧ g5 < gq) ∧ Row w' gq 25 .u8 (fill 16 [])
          | _ => v = .bool true)
        [[], [], [], [(2, some 27)], [(3, some 28)], [(4, some 29)], [], [], [], [(6, some 31), (7, some 32), (8, some 33)], [(0, some 25), (1, some 26), (5, some 30), (9, some 34)], [(10, some 35)], [(11, some 24)], [(11, some 24)], []]
        [[(11, some 24)]]
        [(0, some 25), (1, some 26), (2, some 27), (3, some 28), (4, some 29), (5, some 30), (6, some 31), (7, some 32), (8, some 33), (9, some 34), (10, some 35), (11, some 24), (12, some 36), (13, some 37), (14, some 14)]
        (by kernel_rfl) (by kernel_rfl) (by kernel_rfl) (by kernel_rfl) (by kernel_rfl) (by kernel_rfl) (by kernel_rfl) (by decide) (by decide) (fun w1 w2 h hb => ⟨h.1.keep hb, h.2.1.keep hb, h.2.2.1.keep hb, h.2.2.2.1.keep hb, h.2.2.2.2.1.keep hb, h.2.2.2.2.2.trans (hb.mono (Nat.le_of_lt h.1.lt))⟩) (fun c a w d v h => by cases d <;> exact h) ?_ ⟨F1.out.drew, F2.out.draw, F6.out.drew, F7.out.drew, F5.out.drew, F4.out.drew⟩ ?_ ?_ ?_
      · intro ι w1 w2 v h hb
        by_cases h10 : ι = 10
        · subst h10
          exact h
        by_cases h11 : ι = 11
        · subst h11
          exact h
        by_cases h13 : ι = 13
        · subst h13
          exact trivial
        by_cases h14 : ι = 14
        · subst h14
          exact (show ∃ gq, v = .pointer (some ⟨gq, 0, none⟩) ∧ (g4 < gq ∧ g5 < gq) ∧ Row w2 gq 25 .u8 (fill 16 []) from (by obtain ⟨gq, e, h1, hg⟩ := h; exact ⟨gq, e, h1, hg.keep hb⟩))
        match ι, h10, h11, h13, h14, h with
        | 0, _, _, _, _, h => exact h
        | 1, _, _, _, _, h => exact h
        | 2, _, _, _, _, h => exact h
        | 3, _, _, _, _, h => exact h
        | 4, _, _, _, _, h => exact h
        | 5, _, _, _, _, h => exact h
        | 6, _, _, _, _, h => exact h
        | 7, _, _, _, _, h => exact h
        | 8, _, _, _, _, h => exact h
        | 9, _, _, _, _, h => exact h
        | 10, g, _, _, _, h => exact absurd rfl g
        | 11, _, g, _, _, h => exact absurd rfl g
        | 12, _, _, _, _, h => exact h
        | 13, _, _, g, _, h => exact absurd rfl g
        | 14, _, _, _, g, h => exact absurd rfl g
        | _ + 15, _, _, _, _, h => exact h
      · refine ⟨fun γ wx hS h => ?_, fun γ wx hS h => ?_, fun γ wx hS h => ?_, fun γ wx hS h => ?_, fun γ wx hS h => ?_, fun γ wx hS h => ?_, fun γ wx hS h => ?_, fun γ wx hS h => ?_, fun γ wx hS h => ?_, fun γ wx hS h => ?_, fun γ wx hS h => ?_, fun γ wx hS h => ?_, fun γ wx hS h => ?_, fun γ wx hS h => ?_, fun γ wx hS h => ?_, trivial⟩
        · refine ⟨_, rfl, Or.inl ⟨rfl, predRun_value (exec_load_blk 24 (.tmp 6) rfl (A + 1) rfl 24 _ (0, 0) _ hS.2.1 Tryd.underlying24 rfl (cellsN24 d x)) rfl⟩⟩
        · refine ⟨_, rfl, Or.inl ⟨rfl, predRun_value (v := .int .i64 k) (by simp only [putE]; first | rfl | (go_simp; done) | (go_simp; with_reducible rfl) | (go_simp; rfl)) rfl⟩⟩
        · refine ⟨_, rfl, Or.inl ⟨rfl, predRun_value (v := .int .i64 k) (by simp only [putE]; first | rfl | (go_simp; done) | (go_simp; with_reducible rfl) | (go_simp; rfl)) rfl⟩⟩
        · have h2 := h
          have e2 : γ 2 = .int .i64 k := h2
          refine ⟨_, rfl, ?_⟩
          refine predOp_val (v := .pointer (some ⟨g4, k, none⟩)) ?_ ?_ ?_
          · kernel_rfl
          · simp only [putE, e2]
            go_simp
          · rfl
        · have h3 := h
          have e3 : γ 3 = .pointer (some ⟨g4, k, none⟩) := h3
          have hcell := hS.2.2.1.cell (i := k) (by rw [HDl.out.1]; exact hlt)
          rw [hdk.out.1] at hcell
          refine ⟨_, rfl, ?_⟩
          refine predOp_val (v := .int .u8 gm) ?_ ?_ ?_
          · kernel_rfl
          · simp only [putE, e3]
            go_simp
          · rfl
        · have h4 := h
          have e4 : γ 4 = .int .u8 gm := h4
          refine ⟨_, rfl, Or.inl ⟨rfl, predRun_value (v := .int .i64 gm) (by simp only [putE, e4]; go_simp; exact IntWalk.i64_in _ (by omega)) rfl⟩⟩
        · refine ⟨_, rfl, Or.inl ⟨rfl, predRun_value (exec_load_blk 35 (.tmp 5) rfl (A) rfl 35 _ (0, 0) _ hS.1 Tryd.underlying35 rfl (cellsS35 HS.out.1)) rfl⟩⟩
        · refine ⟨_, rfl, Or.inl ⟨rfl, predRun_value (exec_load_blk 24 (.tmp 6) rfl (A + 1) rfl 24 _ (0, 0) _ hS.2.1 Tryd.underlying24 rfl (cellsN24 d x)) rfl⟩⟩
        · refine ⟨_, rfl, Or.inl ⟨rfl, predRun_value (v := .int .i64 k) (by simp only [putE]; first | rfl | (go_simp; done) | (go_simp; with_reducible rfl) | (go_simp; rfl)) rfl⟩⟩
        · obtain ⟨h6, h7, h8⟩ := h
          have e6 : γ 6 = .agg (kv .u8 s).toArray := h6
          have e7 : γ 7 = nameV d x := h7
          have e8 : γ 8 = .int .i64 k := h8
          refine ⟨_, rfl, Or.inl ⟨rfl, predRun_call (f := 50) (args := #[.agg (kv .u8 s).toArray, nameV d x, .int .i64 k]) (by simp only [putE, e6, e7, e8]; go_simp) ?_⟩⟩
          exact (ostart_any s d x k wx HX.out HS.out.1 HS.out.2 hlt).mono fun e w2 ⟨h1, h2⟩ => ⟨_, h1, (show dgV (ownS s d x k 0) = dgV z by rw [HZ.out]), h2⟩
        · obtain ⟨h0, h1, h5, h9⟩ := h
          have e0 : γ 0 = nameV d x := h0
          have e1 : γ 1 = .int .i64 k := h1
          have e5 : γ 5 = .int .i64 gm := h5
          have e9 : γ 9 = dgV z := h9
          refine ⟨_, rfl, Or.inl ⟨rfl, predRun_call (f := 22) (args := #[nameV d x, .int .i64 k, .int .i64 0, .int .i64 gm, dgV z]) (by simp only [putE, e0, e1, e5, e9]; go_simp) ?_⟩⟩
          exact (rrun_any d x k 0 gm z wx HX.out (by omega) (by omega) HZl.out HZb.out).mono fun e w2 ⟨v, h1, h2, h3⟩ => ⟨_, h1, ⟨v, (show Value.tuple #[dgV (runS d x k ((0 : Nat) : Int) z (gm - 0)), v] = _ by rw [HU.out]; rfl)⟩, h3⟩
        · have h10 := h
          have p10 : ∃ t, (γ 10) = .tuple #[dgV u, t] := h10
          obtain ⟨t, e10⟩ := p10
          refine ⟨_, rfl, Or.inl ⟨rfl, predRun_value (v := .tuple #[dgV u, t]) (by simp only [putE, e10]; first | rfl | (go_simp; done) | (go_simp; rfl)) ⟨t, rfl⟩⟩⟩
        · have h11 := h
          have p11 : ∃ t, (γ 11) = .tuple #[dgV u, t] := h11
          obtain ⟨t, e11⟩ := p11
          refine ⟨_, rfl, Or.inl ⟨rfl, predRun_value (v := dgV u) (by simp only [putE, e11]; first | rfl | (go_simp; done) | (go_simp; rfl)) rfl⟩⟩
        · have h11 := h
          have p11 : ∃ t, (γ 11) = .tuple #[dgV u, t] := h11
          obtain ⟨t, e11⟩ := p11
          refine ⟨_, rfl, Or.inl ⟨rfl, predRun_value (v := t) (by simp only [putE, e11]; first | rfl | (go_simp; done) | (go_simp; rfl)) trivial⟩⟩
        · refine ⟨_, rfl, Or.inl ⟨rfl, predRun_new (w' := wx.alloc z16r) (v := .pointer (some ⟨wx.heap.size, 0, none⟩)) (by simp only [putE]; first | rfl | (go_simp; done) | (go_simp; rfl)) (more (Below.refl _ _) _) ⟨_, rfl, ⟨hS.2.2.1.lt, hS.2.2.2.1.lt⟩, Blk.new _ _⟩⟩⟩
      · refine ⟨fun γ wx hS h => ?_, trivial⟩
        · have h11 := h
          have p11 : ∃ t, (γ 11) = .tuple #[dgV u, t] := h11
          obtain ⟨t, e11⟩ := p11
          refine ⟨_, t, rfl, Or.inl ⟨rfl, fun wz => by simp only [putE, e11]; first | rfl | (go_simp; done) | (go_simp; rfl)⟩, trivial⟩
      · intro γ w9 hS h
        have e12 : γ 12 = dgV u := h.2.2.2.2.2.2.2.2.2.2.2.2.1
        obtain ⟨gq, e14, hAg, hg⟩ : ∃ gq, γ 14 = .pointer (some ⟨gq, 0, none⟩) ∧ (g4 < gq ∧ g5 < gq) ∧ Row w9 gq 25 .u8 (fill 16 []) := h.2.2.2.2.2.2.2.2.2.2.2.2.2.2
        simp only [putE, Act.put, List.setIfInBounds_toArray, List.set_cons_zero, List.set_cons_succ]
        rw [e12, e14]
        have HGA : Kp (Row w9 gq 25 .u8 (fill 16 [])) := ⟨hg⟩
        obtain ⟨W9, hW9⟩ : ∃ W9, W9 = w9.setRow gq (kv .u8 u).toArray := ⟨_, rfl⟩
        have EG : Kp (Row W9 gq 25 .u8 u) := ⟨by rw [hW9]; exact HGA.out.setRow u⟩
        have E1 : Kp (Row W9 A 35 .u8 s) := ⟨by rw [hW9]; exact Row.otherRow hS.1 (by omega) _⟩
        have E2 : Kp (Blk W9 (A + 1) (.cells #[.int .i64 d, .int .u32 x] 24)) := ⟨by rw [hW9]; exact (setRow_other w9 gq (A + 1) _ (by omega)).trans hS.2.1⟩
        have E6 : Kp (Row W9 g4 51 .u8 dm) := ⟨by rw [hW9]; exact Row.otherRow hS.2.2.1 (by omega) _⟩
        have E7 : Kp (Row W9 g5 51 .u8 de) := ⟨by rw [hW9]; exact Row.otherRow hS.2.2.2.1 (by omega) _⟩
        have E5 : Kp (Row W9 (A + 4) 43 .u8 S) := ⟨by rw [hW9]; exact Row.otherRow hS.2.2.2.2.1 (by omega) _⟩
        have E4 : Kp (Below A w W9) := ⟨by rw [hW9]; exact Below.row hS.2.2.2.2.2 (by omega) _⟩
        have HWk := Kp.mk hW9
        clear h hS e12 e14 hg F1 F2 F4 F5 F6 F7 hW9
        generalize γ 13 = v13 at *
        refine wpOps_step rfl rfl ?_
        refine wp_store_rowD rfl 25 (.tmp 14) (.tmp 36) rfl gq (kv .u8 u).toArray rfl rfl 25 _ HGA.out HC.out HZ16.out (kv_all _ _) ?_
        rw [← HWk.out]
        clear HWk HGA
        refine wpOps_step rfl rfl ?_
        refine wp_assign_endD (d := some 15) (v := v13) rfl rfl rfl ?_
        simp only [Act.put, List.setIfInBounds_toArray, List.set_cons_zero, List.set_cons_succ]
        refine wpOps_done ?_
        go_wp2_with fail
        by_cases hlt2 : gm < ge
        · have HLT : Kp (decide ((gm : Int) < (ge : Int)) = true ∧ decide (gm < ge) = true) := ⟨⟨decide_eq_true (by omega), decide_eq_true hlt2⟩⟩
          by_cases heq : u = z2
          · have HEQ : Kp (∀ w, (binOp .eql 25 (dgV u) (dgV z2)).run Tryd.prog w = .ok (.bool true) w) := ⟨fun w => by rw [eq32 HUb.out HZ2b.out HUl.out HZ2l.out w, decide_eq_true heq]⟩
            have HYes : Kp (BelowP s d x m g S) := ⟨⟨k, hlt, HIQ.out.2 ⟨hlt2, heq⟩⟩⟩
            clear hlt2 heq
            refine wp_region_pred (fun w' => Row w' A 35 .u8 s ∧ Blk w' (A + 1) (.cells #[.int .i64 d, .int .u32 x] 24) ∧ Row w' g4 51 .u8 dm ∧ Row w' g5 51 .u8 de ∧ Row w' (A + 4) 43 .u8 S ∧ Row w' gq 25 .u8 u ∧ Below A w w') [0, 1, 2, 3, 4, 5, 6, 7, 8, 9, 10, 11, 12, 13] []
              (fun ι w' v => match ι with
                | 0 | 3 | 9 => v = .int .i64 k
                | 1 => v = .pointer (some ⟨g4, k, none⟩)
                | 2 => v = .int .u8 gm
                | 4 => v = .pointer (some ⟨g5, k, none⟩)
                | 5 => v = .int .u8 ge
                | 8 => v = dgV u
                | 10 => v = .pointer (some ⟨A + 4, k * 16, none⟩)
                | 11 => v = dgV z2
                | _ => v = .bool true)
              [[], [(0, some 38)], [(1, some 39)], [], [(3, some 41)], [(4, some 42)], [(2, some 40), (5, some 43)], [(6, some 44)], [(7, some 45)], [(7, some 45)], [(7, some 45), (9, some 47)], [(7, some 45), (10, some 48)], [(7, some 45), (8, some 46), (11, some 49)], [(7, some 45), (12, some 50)]]
              [(0, some 38), (1, some 39), (2, some 40), (3, some 41), (4, some 42), (5, some 43), (6, some 44), (7, some 45), (8, some 46), (9, some 47), (10, some 48), (11, some 49), (12, some 50), (13, some 51)]
              (by kernel_rfl) (by kernel_rfl) (by kernel_rfl) (by kernel_rfl) (by kernel_rfl) (by kernel_rfl) (by decide) (by decide) (fun w1 w2 h hb => ⟨h.1.keep hb, h.2.1.keep hb, h.2.2.1.keep hb, h.2.2.2.1.keep hb, h.2.2.2.2.1.keep hb, h.2.2.2.2.2.1.keep hb, h.2.2.2.2.2.2.trans (hb.mono (Nat.le_of_lt h.1.lt))⟩) ?_ ⟨E1.out.drew, E2.out.draw, E6.out.drew, E7.out.drew, E5.out.drew, EG.out.drew, E4.out.drew⟩ ?_ ?_
            · intro ι w1 w2 v h hb
              match ι, h with
              | 0, h => exact h
              | 1, h => exact h
              | 2, h => exact h
              | 3, h => exact h
              | 4, h => exact h
              | 5, h => exact h
              | 6, h => exact h
              | 7, h => exact h
              | 8, h => exact h
              | 9, h => exact h
              | 10, h => exact h
              | 11, h => exact h
              | 12, h => exact h
              | 13, h => exact h
              | _ + 14, h => exact h
            · refine ⟨fun γ wx hS h => ?_, fun γ wx hS h => ?_, fun γ wx hS h => ?_, fun γ wx hS h => ?_, fun γ wx hS h => ?_, fun γ wx hS h => ?_, fun γ wx hS h => ?_, fun γ wx hS h => ?_, fun γ wx hS h => ?_, fun γ wx hS h => ?_, fun γ wx hS h => ?_, fun γ wx hS h => ?_, fun γ wx hS h => ?_, fun γ wx hS h => ?_, trivial⟩
              · refine ⟨_, rfl, Or.inl ⟨rfl, predRun_value (v := .int .i64 k) (by simp only [putE]; first | rfl | (go_simp; done) | (go_simp; with_reducible rfl) | (go_simp; rfl)) rfl⟩⟩
              · have h0 := h
                have e0 : γ 0 = .int .i64 k := h0
                refine ⟨_, rfl, ?_⟩
                refine predOp_val (v := .pointer (some ⟨g4, k, none⟩)) ?_ ?_ ?_
                · kernel_rfl
                · simp only [putE, e0]
                  go_simp
                · rfl
              · have h1 := h
                have e1 : γ 1 = .pointer (some ⟨g4, k, none⟩) := h1
                have hcell := hS.2.2.1.cell (i := k) (by rw [HDl.out.1]; exact hlt)
                rw [hdk.out.1] at hcell
                refine ⟨_, rfl, ?_⟩
                refine predOp_val (v := .int .u8 gm) ?_ ?_ ?_
                · kernel_rfl
                · simp only [putE, e1]
                  go_simp
                · rfl
              · refine ⟨_, rfl, Or.inl ⟨rfl, predRun_value (v := .int .i64 k) (by simp only [putE]; first | rfl | (go_simp; done) | (go_simp; with_reducible rfl) | (go_simp; rfl)) rfl⟩⟩
              · have h3 := h
                have e3 : γ 3 = .int .i64 k := h3
                refine ⟨_, rfl, ?_⟩
                refine predOp_val (v := .pointer (some ⟨g5, k, none⟩)) ?_ ?_ ?_
                · kernel_rfl
                · simp only [putE, e3]
                  go_simp
                · rfl
              · have h4 := h
                have e4 : γ 4 = .pointer (some ⟨g5, k, none⟩) := h4
                have hcell := hS.2.2.2.1.cell (i := k) (by rw [HDl.out.2]; exact hlt)
                rw [hdk.out.2] at hcell
                refine ⟨_, rfl, ?_⟩
                refine predOp_val (v := .int .u8 ge) ?_ ?_ ?_
                · kernel_rfl
                · simp only [putE, e4]
                  go_simp
                · rfl
              · obtain ⟨h2, h5⟩ := h
                have e2 : γ 2 = .int .u8 gm := h2
                have e5 : γ 5 = .int .u8 ge := h5
                refine ⟨_, rfl, Or.inl ⟨rfl, predRun_value (v := .bool true) (by simp only [putE, e2, e5]; have hl1 := HLT.out.1; have hl2 := HLT.out.2; first | rfl | (go_simp; done) | (go_simp; with_reducible rfl) | (go_simp; rfl)) rfl⟩⟩
              · have h6 := h
                have e6 : γ 6 = .bool true := h6
                refine ⟨_, rfl, Or.inl ⟨rfl, predRun_value (v := .bool true) (by simp only [putE, e6]; first | rfl | (go_simp; done) | (go_simp; with_reducible rfl) | (go_simp; rfl)) rfl⟩⟩
              · have h7 := h
                have e7 : γ 7 = .bool true := h7
                refine ⟨_, rfl, Or.inl ⟨(by simp only [putE, e7]; first | kernel_rfl | rfl), predRun_value (exec_load_blk 25 (.tmp 14) rfl (gq) rfl 25 _ (0, 0) _ hS.2.2.2.2.2.1 Tryd.underlying25 rfl (cellsT25 HUl.out)) rfl⟩⟩
              · have h7 := h
                have e7 : γ 7 = .bool true := h7
                refine ⟨_, rfl, Or.inl ⟨(by simp only [putE, e7]; first | kernel_rfl | rfl), predRun_value (v := .int .i64 k) (by simp only [putE, e7]; first | rfl | (go_simp; done) | (go_simp; with_reducible rfl) | (go_simp; rfl)) rfl⟩⟩
              · obtain ⟨h7, h9⟩ := h
                have e7 : γ 7 = .bool true := h7
                have e9 : γ 9 = .int .i64 k := h9
                refine ⟨_, rfl, ?_⟩
                refine predOp_val (v := .pointer (some ⟨A + 4, k * 16, none⟩)) ?_ ?_ ?_
                · simp only [putE, e7, e9]; first | kernel_rfl | rfl
                · simp only [putE, e7, e9]
                  go_simp
                · rfl
              · obtain ⟨h7, h10⟩ := h
                have e7 : γ 7 = .bool true := h7
                have e10 : γ 10 = .pointer (some ⟨A + 4, k * 16, none⟩) := h10
                refine ⟨_, rfl, Or.inl ⟨(by simp only [putE, e7, e10]; first | kernel_rfl | rfl), predRun_value (v := dgV z2) (exec_load_mid (cs := kv .u8 z2) rfl (by simp only [putE, e7, e10]; rfl) (by rw [HZ2.out]; exact hS.2.2.2.2.1.mid (by rw [HSS.out.1]; omega)) Tryd.underlying25 rfl (cellsLT25 HZ2l.out)) rfl⟩⟩
              · obtain ⟨h7, h8, h11⟩ := h
                have e7 : γ 7 = .bool true := h7
                have e8 : γ 8 = dgV u := h8
                have e11 : γ 11 = dgV z2 := h11
                refine ⟨_, rfl, Or.inl ⟨(by simp only [putE, e7, e8, e11]; first | kernel_rfl | rfl), predRun_value (v := .bool true) (by simp only [putE, e7, e8, e11]; have hg := eqg32 u z2; have he := HEQ.out; first | rfl | (go_simp; done) | (go_simp; with_reducible rfl) | (go_simp; rfl)) rfl⟩⟩
              · obtain ⟨h7, h12⟩ := h
                have e7 : γ 7 = .bool true := h7
                have e12 : γ 12 = .bool true := h12
                refine ⟨_, rfl, Or.inl ⟨rfl, predRun_value (v := .bool true) (by simp only [putE, e7, e12]; first | rfl | (go_simp; done) | (go_simp; with_reducible rfl) | (go_simp; rfl)) rfl⟩⟩
            · intro γ w9 hS h
              have e13 : γ 13 = .bool true := h.2.2.2.2.2.2.2.2.2.2.2.2.2
              have HB9 := Kp.mk hS
              simp only [putE, Act.put, List.setIfInBounds_toArray, List.set_cons_zero, List.set_cons_succ]
              rw [e13]
              clear h hS e13 E1 E2 E4 E5 E6 E7 EG
              refine wpOps_done ?_
              go_wp2_with fail
              go_ret
              exact ⟨true, rfl, ⟨fun _ => HYes.out, fun _ => rfl⟩, by rw [← HA.out]; exact HB9.out.2.2.2.2.2.2⟩
          · have HEQ : Kp (∀ w, (binOp .eql 25 (dgV u) (dgV z2)).run Tryd.prog w = .ok (.bool false) w) := ⟨fun w => by rw [eq32 HUb.out HZ2b.out HUl.out HZ2l.out w, decide_eq_false heq]⟩
            have HNo : Kp (¬ (dgt m k < dgt g k ∧ ownS s d x k (dgt m k) = linkAt S k)) := ⟨fun h => heq (HIQ.out.1 h).2⟩
            clear hlt2 heq
            refine wp_region_pred (fun w' => Row w' A 35 .u8 s ∧ Blk w' (A + 1) (.cells #[.int .i64 d, .int .u32 x] 24) ∧ Row w' g4 51 .u8 dm ∧ Row w' g5 51 .u8 de ∧ Row w' (A + 4) 43 .u8 S ∧ Row w' gq 25 .u8 u ∧ Below A w w') [0, 1, 2, 3, 4, 5, 6, 7, 8, 9, 10, 11, 12, 13] []
              (fun ι w' v => match ι with
                | 0 | 3 | 9 => v = .int .i64 k
                | 1 => v = .pointer (some ⟨g4, k, none⟩)
                | 2 => v = .int .u8 gm
                | 4 => v = .pointer (some ⟨g5, k, none⟩)
                | 5 => v = .int .u8 ge
                | 8 => v = dgV u
                | 10 => v = .pointer (some ⟨A + 4, k * 16, none⟩)
                | 11 => v = dgV z2
                | 12 | 13 => v = .bool false
                | _ => v = .bool true)
              [[], [(0, some 38)], [(1, some 39)], [], [(3, some 41)], [(4, some 42)], [(2, some 40), (5, some 43)], [(6, some 44)], [(7, some 45)], [(7, some 45)], [(7, some 45), (9, some 47)], [(7, some 45), (10, some 48)], [(7, some 45), (8, some 46), (11, some 49)], [(7, some 45), (12, some 50)]]
              [(0, some 38), (1, some 39), (2, some 40), (3, some 41), (4, some 42), (5, some 43), (6, some 44), (7, some 45), (8, some 46), (9, some 47), (10, some 48), (11, some 49), (12, some 50), (13, some 51)]
              (by kernel_rfl) (by kernel_rfl) (by kernel_rfl) (by kernel_rfl) (by kernel_rfl) (by kernel_rfl) (by decide) (by decide) (fun w1 w2 h hb => ⟨h.1.keep hb, h.2.1.keep hb, h.2.2.1.keep hb, h.2.2.2.1.keep hb, h.2.2.2.2.1.keep hb, h.2.2.2.2.2.1.keep hb, h.2.2.2.2.2.2.trans (hb.mono (Nat.le_of_lt h.1.lt))⟩) ?_ ⟨E1.out.drew, E2.out.draw, E6.out.drew, E7.out.drew, E5.out.drew, EG.out.drew, E4.out.drew⟩ ?_ ?_
            · intro ι w1 w2 v h hb
              match ι, h with
              | 0, h => exact h
              | 1, h => exact h
              | 2, h => exact h
              | 3, h => exact h
              | 4, h => exact h
              | 5, h => exact h
              | 6, h => exact h
              | 7, h => exact h
              | 8, h => exact h
              | 9, h => exact h
              | 10, h => exact h
              | 11, h => exact h
              | 12, h => exact h
              | 13, h => exact h
              | _ + 14, h => exact h
            · refine ⟨fun γ wx hS h => ?_, fun γ wx hS h => ?_, fun γ wx hS h => ?_, fun γ wx hS h => ?_, fun γ wx hS h => ?_, fun γ wx hS h => ?_, fun γ wx hS h => ?_, fun γ wx hS h => ?_, fun γ wx hS h => ?_, fun γ wx hS h => ?_, fun γ wx hS h => ?_, fun γ wx hS h => ?_, fun γ wx hS h => ?_, fun γ wx hS h => ?_, trivial⟩
              · refine ⟨_, rfl, Or.inl ⟨rfl, predRun_value (v := .int .i64 k) (by simp only [putE]; first | rfl | (go_simp; done) | (go_simp; with_reducible rfl) | (go_simp; rfl)) rfl⟩⟩
              · have h0 := h
                have e0 : γ 0 = .int .i64 k := h0
                refine ⟨_, rfl, ?_⟩
                refine predOp_val (v := .pointer (some ⟨g4, k, none⟩)) ?_ ?_ ?_
                · kernel_rfl
                · simp only [putE, e0]
                  go_simp
                · rfl
              · have h1 := h
                have e1 : γ 1 = .pointer (some ⟨g4, k, none⟩) := h1
                have hcell := hS.2.2.1.cell (i := k) (by rw [HDl.out.1]; exact hlt)
                rw [hdk.out.1] at hcell
                refine ⟨_, rfl, ?_⟩
                refine predOp_val (v := .int .u8 gm) ?_ ?_ ?_
                · kernel_rfl
                · simp only [putE, e1]
                  go_simp
                · rfl
              · refine ⟨_, rfl, Or.inl ⟨rfl, predRun_value (v := .int .i64 k) (by simp only [putE]; first | rfl | (go_simp; done) | (go_simp; with_reducible rfl) | (go_simp; rfl)) rfl⟩⟩
              · have h3 := h
                have e3 : γ 3 = .int .i64 k := h3
                refine ⟨_, rfl, ?_⟩
                refine predOp_val (v := .pointer (some ⟨g5, k, none⟩)) ?_ ?_ ?_
                · kernel_rfl
                · simp only [putE, e3]
                  go_simp
                · rfl
              · have h4 := h
                have e4 : γ 4 = .pointer (some ⟨g5, k, none⟩) := h4
                have hcell := hS.2.2.2.1.cell (i := k) (by rw [HDl.out.2]; exact hlt)
                rw [hdk.out.2] at hcell
                refine ⟨_, rfl, ?_⟩
                refine predOp_val (v := .int .u8 ge) ?_ ?_ ?_
                · kernel_rfl
                · simp only [putE, e4]
                  go_simp
                · rfl
              · obtain ⟨h2, h5⟩ := h
                have e2 : γ 2 = .int .u8 gm := h2
                have e5 : γ 5 = .int .u8 ge := h5
                refine ⟨_, rfl, Or.inl ⟨rfl, predRun_value (v := .bool true) (by simp only [putE, e2, e5]; have hl1 := HLT.out.1; have hl2 := HLT.out.2; first | rfl | (go_simp; done) | (go_simp; with_reducible rfl) | (go_simp; rfl)) rfl⟩⟩
              · have h6 := h
                have e6 : γ 6 = .bool true := h6
                refine ⟨_, rfl, Or.inl ⟨rfl, predRun_value (v := .bool true) (by simp only [putE, e6]; first | rfl | (go_simp; done) | (go_simp; with_reducible rfl) | (go_simp; rfl)) rfl⟩⟩
              · have h7 := h
                have e7 : γ 7 = .bool true := h7
                refine ⟨_, rfl, Or.inl ⟨(by simp only [putE, e7]; first | kernel_rfl | rfl), predRun_value (exec_load_blk 25 (.tmp 14) rfl (gq) rfl 25 _ (0, 0) _ hS.2.2.2.2.2.1 Tryd.underlying25 rfl (cellsT25 HUl.out)) rfl⟩⟩
              · have h7 := h
                have e7 : γ 7 = .bool true := h7
                refine ⟨_, rfl, Or.inl ⟨(by simp only [putE, e7]; first | kernel_rfl | rfl), predRun_value (v := .int .i64 k) (by simp only [putE, e7]; first | rfl | (go_simp; done) | (go_simp; with_reducible rfl) | (go_simp; rfl)) rfl⟩⟩
              · obtain ⟨h7, h9⟩ := h
                have e7 : γ 7 = .bool true := h7
                have e9 : γ 9 = .int .i64 k := h9
                refine ⟨_, rfl, ?_⟩
                refine predOp_val (v := .pointer (some ⟨A + 4, k * 16, none⟩)) ?_ ?_ ?_
                · simp only [putE, e7, e9]; first | kernel_rfl | rfl
                · simp only [putE, e7, e9]
                  go_simp
                · rfl
              · obtain ⟨h7, h10⟩ := h
                have e7 : γ 7 = .bool true := h7
                have e10 : γ 10 = .pointer (some ⟨A + 4, k * 16, none⟩) := h10
                refine ⟨_, rfl, Or.inl ⟨(by simp only [putE, e7, e10]; first | kernel_rfl | rfl), predRun_value (v := dgV z2) (exec_load_mid (cs := kv .u8 z2) rfl (by simp only [putE, e7, e10]; rfl) (by rw [HZ2.out]; exact hS.2.2.2.2.1.mid (by rw [HSS.out.1]; omega)) Tryd.underlying25 rfl (cellsLT25 HZ2l.out)) rfl⟩⟩
              · obtain ⟨h7, h8, h11⟩ := h
                have e7 : γ 7 = .bool true := h7
                have e8 : γ 8 = dgV u := h8
                have e11 : γ 11 = dgV z2 := h11
                refine ⟨_, rfl, Or.inl ⟨(by simp only [putE, e7, e8, e11]; first | kernel_rfl | rfl), predRun_value (v := .bool false) (by simp only [putE, e7, e8, e11]; have hg := eqg32 u z2; have he := HEQ.out; first | rfl | (go_simp; done) | (go_simp; with_reducible rfl) | (go_simp; rfl)) rfl⟩⟩
              · obtain ⟨h7, h12⟩ := h
                have e7 : γ 7 = .bool true := h7
                have e12 : γ 12 = .bool false := h12
                refine ⟨_, rfl, Or.inl ⟨rfl, predRun_value (v := .bool false) (by simp only [putE, e7, e12]; first | rfl | (go_simp; done) | (go_simp; with_reducible rfl) | (go_simp; rfl)) rfl⟩⟩
            · intro γ w9 hS h
              have e13 : γ 13 = .bool false := h.2.2.2.2.2.2.2.2.2.2.2.2.2
              have HB9 := Kp.mk hS
              simp only [putE, Act.put, List.setIfInBounds_toArray, List.set_cons_zero, List.set_cons_succ]
              rw [e13]
              clear h hS e13 E1 E2 E4 E5 E6 E7 EG
              refine wpOps_done ?_
              go_wp2_with fail
              exact ⟨⟨k + 1, by omega, by go_num, ⟨fun c hc => by
                rcases Nat.lt_succ_iff_lt_or_eq.1 hc with h | h
                · exact HN.out c h
                · subst h; exact HNo.out⟩, ⟨HB9.out.1⟩, ⟨HB9.out.2.1⟩, ⟨HB9.out.2.2.2.2.1⟩, ⟨HB9.out.2.2.1⟩, ⟨HB9.out.2.2.2.1⟩, ⟨HB9.out.2.2.2.2.2.2⟩⟩, by simp [intOf]; omega⟩
        · have HLT : Kp (decide ((gm : Int) < (ge : Int)) = false ∧ decide (gm < ge) = false) := ⟨⟨decide_eq_false (by omega), decide_eq_false hlt2⟩⟩
          have HNo : Kp (¬ (dgt m k < dgt g k ∧ ownS s d x k (dgt m k) = linkAt S k)) := ⟨fun h => hlt2 (HIQ.out.1 h).1⟩
          clear hlt2
          refine wp_region_pred (fun w' => Row w' A 35 .u8 s ∧ Blk w' (A + 1) (.cells #[.int .i64 d, .int .u32 x] 24) ∧ Row w' g4 51 .u8 dm ∧ Row w' g5 51 .u8 de ∧ Row w' (A + 4) 43 .u8 S ∧ Row w' gq 25 .u8 u ∧ Below A w w') [0, 1, 2, 3, 4, 5, 6, 7, 8, 9, 10, 11, 12, 13] []
            (fun ι w' v => match ι with
              | 0 | 3 => v = .int .i64 k
              | 1 => v = .pointer (some ⟨g4, k, none⟩)
              | 2 => v = .int .u8 gm
              | 4 => v = .pointer (some ⟨g5, k, none⟩)
              | 5 => v = .int .u8 ge
              | 6 | 7 | 13 => v = .bool false
              | 8 | 9 | 10 | 11 | 12 => v = undef
              | _ => v = .bool true)
            [[], [(0, some 38)], [(1, some 39)], [], [(3, some 41)], [(4, some 42)], [(2, some 40), (5, some 43)], [(6, some 44)], [(7, some 45)], [(7, some 45)], [(7, some 45), (9, some 47)], [(7, some 45), (10, some 48)], [(7, some 45), (8, some 46), (11, some 49)], [(7, some 45), (12, some 50)]]
            [(0, some 38), (1, some 39), (2, some 40), (3, some 41), (4, some 42), (5, some 43), (6, some 44), (7, some 45), (8, some 46), (9, some 47), (10, some 48), (11, some 49), (12, some 50), (13, some 51)]
            (by kernel_rfl) (by kernel_rfl) (by kernel_rfl) (by kernel_rfl) (by kernel_rfl) (by kernel_rfl) (by decide) (by decide) (fun w1 w2 h hb => ⟨h.1.keep hb, h.2.1.keep hb, h.2.2.1.keep hb, h.2.2.2.1.keep hb, h.2.2.2.2.1.keep hb, h.2.2.2.2.2.1.keep hb, h.2.2.2.2.2.2.trans (hb.mono (Nat.le_of_lt h.1.lt))⟩) ?_ ⟨E1.out.drew, E2.out.draw, E6.out.drew, E7.out.drew, E5.out.drew, EG.out.drew, E4.out.drew⟩ ?_ ?_
          · intro ι w1 w2 v h hb
            match ι, h with
            | 0, h => exact h
            | 1, h => exact h
            | 2, h => exact h
            | 3, h => exact h
            | 4, h => exact h
            | 5, h => exact h
            | 6, h => exact h
            | 7, h => exact h
            | 8, h => exact h
            | 9, h => exact h
            | 10, h => exact h
            | 11, h => exact h
            | 12, h => exact h
            | 13, h => exact h
            | _ + 14, h => exact h
          · refine ⟨fun γ wx hS h => ?_, fun γ wx hS h => ?_, fun γ wx hS h => ?_, fun γ wx hS h => ?_, fun γ wx hS h => ?_, fun γ wx hS h => ?_, fun γ wx hS h => ?_, fun γ wx hS h => ?_, fun γ wx hS h => ?_, fun γ wx hS h => ?_, fun γ wx hS h => ?_, fun γ wx hS h => ?_, fun γ wx hS h => ?_, fun γ wx hS h => ?_, trivial⟩
            · refine ⟨_, rfl, Or.inl ⟨rfl, predRun_value (v := .int .i64 k) (by simp only [putE]; first | rfl | (go_simp; done) | (go_simp; with_reducible rfl) | (go_simp; rfl)) rfl⟩⟩
            · have h0 := h
              have e0 : γ 0 = .int .i64 k := h0
              refine ⟨_, rfl, ?_⟩
              refine predOp_val (v := .pointer (some ⟨g4, k, none⟩)) ?_ ?_ ?_
              · kernel_rfl
              · simp only [putE, e0]
                go_simp
              · rfl
            · have h1 := h
              have e1 : γ 1 = .pointer (some ⟨g4, k, none⟩) := h1
              have hcell := hS.2.2.1.cell (i := k) (by rw [HDl.out.1]; exact hlt)
              rw [hdk.out.1] at hcell
              refine ⟨_, rfl, ?_⟩
              refine predOp_val (v := .int .u8 gm) ?_ ?_ ?_
              · kernel_rfl
              · simp only [putE, e1]
                go_simp
              · rfl
            · refine ⟨_, rfl, Or.inl ⟨rfl, predRun_value (v := .int .i64 k) (by simp only [putE]; first | rfl | (go_simp; done) | (go_simp; with_reducible rfl) | (go_simp; rfl)) rfl⟩⟩
            · have h3 := h
              have e3 : γ 3 = .int .i64 k := h3
              refine ⟨_, rfl, ?_⟩
              refine predOp_val (v := .pointer (some ⟨g5, k, none⟩)) ?_ ?_ ?_
              · kernel_rfl
              · simp only [putE, e3]
                go_simp
              · rfl
            · have h4 := h
              have e4 : γ 4 = .pointer (some ⟨g5, k, none⟩) := h4
              have hcell := hS.2.2.2.1.cell (i := k) (by rw [HDl.out.2]; exact hlt)
              rw [hdk.out.2] at hcell
              refine ⟨_, rfl, ?_⟩
              refine predOp_val (v := .int .u8 ge) ?_ ?_ ?_
              · kernel_rfl
              · simp only [putE, e4]
                go_simp
              · rfl
            · obtain ⟨h2, h5⟩ := h
              have e2 : γ 2 = .int .u8 gm := h2
              have e5 : γ 5 = .int .u8 ge := h5
              refine ⟨_, rfl, Or.inl ⟨rfl, predRun_value (v := .bool false) (by simp only [putE, e2, e5]; have hl1 := HLT.out.1; have hl2 := HLT.out.2; first | rfl | (go_simp; done) | (go_simp; with_reducible rfl) | (go_simp; rfl)) rfl⟩⟩
            · have h6 := h
              have e6 : γ 6 = .bool false := h6
              refine ⟨_, rfl, Or.inl ⟨rfl, predRun_value (v := .bool false) (by simp only [putE, e6]; first | rfl | (go_simp; done) | (go_simp; with_reducible rfl) | (go_simp; rfl)) rfl⟩⟩
            · have h7 := h
              have e7 : γ 7 = .bool false := h7
              refine ⟨_, rfl, Or.inr ⟨(by simp only [putE, e7]; first | kernel_rfl | rfl), rfl⟩⟩
            · have h7 := h
              have e7 : γ 7 = .bool false := h7
              refine ⟨_, rfl, Or.inr ⟨(by simp only [putE, e7]; first | kernel_rfl | rfl), rfl⟩⟩
            · obtain ⟨h7, h9⟩ := h
              have e7 : γ 7 = .bool false := h7
              have e9 : γ 9 = undef := h9
              refine ⟨_, rfl, Or.inr ⟨(by simp only [putE, e7, e9]; first | kernel_rfl | rfl), rfl⟩⟩
            · obtain ⟨h7, h10⟩ := h
              have e7 : γ 7 = .bool false := h7
              have e10 : γ 10 = undef := h10
              refine ⟨_, rfl, Or.inr ⟨(by simp only [putE, e7, e10]; first | kernel_rfl | rfl), rfl⟩⟩
            · obtain ⟨h7, h8, h11⟩ := h
              have e7 : γ 7 = .bool false := h7
              have e8 : γ 8 = undef := h8
              have e11 : γ 11 = undef := h11
              refine ⟨_, rfl, Or.inr ⟨(by simp only [putE, e7, e8, e11]; first | kernel_rfl | rfl), rfl⟩⟩
            · obtain ⟨h7, h12⟩ := h
              have e7 : γ 7 = .bool false := h7
              have e12 : γ 12 = undef := h12
              refine ⟨_, rfl, Or.inl ⟨rfl, predRun_value (v := .bool false) (by simp only [putE, e7, e12]; first | rfl | (go_simp; done) | (go_simp; with_reducible rfl) | (go_simp; rfl)) rfl⟩⟩
          · intro γ w9 hS h
            have e13 : γ 13 = .bool false := h.2.2.2.2.2.2.2.2.2.2.2.2.2
            have HB9 := Kp.mk hS
            simp only [putE, Act.put, List.setIfInBounds_toArray, List.set_cons_zero, List.set_cons_succ]
            rw [e13]
            clear h hS e13 E1 E2 E4 E5 E6 E7 EG
            refine wpOps_done ?_
            go_wp2_with fail
            exact ⟨⟨k + 1, by omega, by go_num, ⟨fun c hc => by
              rcases Nat.lt_succ_iff_lt_or_eq.1 hc with h | h
              · exact HN.out c h
              · subst h; exact HNo.out⟩, ⟨HB9.out.1⟩, ⟨HB9.out.2.1⟩, ⟨HB9.out.2.2.2.2.1⟩, ⟨HB9.out.2.2.1⟩, ⟨HB9.out.2.2.2.1⟩, ⟨HB9.out.2.2.2.2.2.2⟩⟩, by simp [intOf]; omega⟩
    · obtain rfl : k = 68 := by omega
      have hge : ¬ ((68 : Nat) : Int) < 68 := by omega
      have HNo : Kp (¬ BelowP s d x m g S) := ⟨fun ⟨c, hc, h⟩ => HN.out c hc h⟩
      go_wp2_with fail
      go_ret
      exact ⟨false, rfl, ⟨(fun h => by cases h), fun h => absurd h HNo.out⟩, by rw [← HA.out]; exact F4.out⟩
end Go.Proofs.YtpljjmdkagbjpaaDoor
