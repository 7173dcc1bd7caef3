/-
  The law OtsApart, walked.
-/
import Derived.Test.YtpljjmdkagbjpaaDg09
import Derived.Deep.RegionHeld3
import Derived.Stop.BytesEq
namespace Go.Proofs.Ytpljjmdkagbjpaa
open Go.RowKit

theorem zeros16 : digA (List.replicate 16 0) 0 = 0 ∧ digA (List.replicate 16 0) 64 = 3 ∧ digA (List.replicate 16 0) 65 = 0 := by decide +kernel
set_option maxRecDepth 100000 in
set_option maxHeartbeats 4000000 in
theorem awake_any (w : World) : Calls Try.prog 7 #[] w fun r w' => r = .returned (.bool true) ∧ Below w.heap.size w w' := by
  go_enter Try.func7, Try.ntmps7
  go_wp2_with fail
  refine (digits_any (List.replicate 16 0) w (by simp) (by intro x hx; have := (List.mem_replicate.1 hx).2; omega)).mono ?_
  rintro r w1 ⟨rfl, hb⟩
  have HB := Kp.mk hb
  have h0 := digS_at (List.replicate 16 0) (c := 0) (by omega)
  have h1 := digS_at (List.replicate 16 0) (c := 64) (by omega)
  have h2 := digS_at (List.replicate 16 0) (c := 65) (by omega)
  rw [zeros16.1] at h0
  rw [zeros16.2.1] at h1
  rw [zeros16.2.2] at h2
  have hl := digS_len (List.replicate 16 0)
  generalize digS (List.replicate 16 0) = dl at *
  have HL := Kp.mk hl
  have H0 := Kp.mk (And.intro h0 (And.intro h1 h2))
  clear hb h0 h1 h2 hl
  have HC33 : Kp ((Try.prog.info? 33).map (·.size) = some (kv .u8 dl).toArray.size) := ⟨by rw [show (kv .u8 dl).toArray.size = 68 by simp [HL.out]]; exact size33⟩
  have HZ : Kp ((kv .u8 (List.replicate 68 0)).toArray.size = (kv .u8 dl).toArray.size) := ⟨by rw [kv_size, kv_size, HL.out]; simp⟩
  obtain ⟨B, hB⟩ : ∃ B, B = w1.heap.size := ⟨_, rfl⟩
  have HBe := Kp.mk hB
  go_wp2_with (first
    | (refine wpList_alloc_row rfl 33 rfl _ _ info33 ?_; rw [← hB]; clear hB; refine wpl_world (fun w2 => Row w2 B 33 .u8 (List.replicate 68 0) ∧ Below w.heap.size w w2) ⟨Blk.newAt _ HBe.out, HB.out.alloc HB.out.size _⟩ ?_; rintro W2 ⟨h1, h2⟩; have K1 := Kp.mk h1; have K2 := Kp.mk h2; clear h1 h2)
    | (refine wpList_store_row rfl 33 (.tmp 1) (.tmp 3) rfl B (kv .u8 dl).toArray rfl rfl 33 _ K1.out HC33.out HZ.out (kv_all _ _) ?_; refine wpl_world (fun w2 => Row w2 B 33 .u8 dl ∧ Below w.heap.size w w2) ⟨K1.out.setRow dl, Below.row K2.out (by have := HBe.out; have := HB.out.size; omega) _⟩ ?_; rintro W3 ⟨h1, h2⟩; have K3 := Kp.mk h2; have c0 := h1.cell (i := 0) (by rw [HL.out]; omega); have c1 := h1.cell (i := 64) (by rw [HL.out]; omega); have c2 := h1.cell (i := 65) (by rw [HL.out]; omega); rw [H0.out.1] at c0; rw [H0.out.2.1] at c1; rw [H0.out.2.2] at c2; clear h1 h2))
  go_ret
  exact ⟨rfl, K3.out⟩
-- LAW
theorem bytes_inj {p q : List Int} (hp : Bytes p) (hq : Bytes q) : (p.map fun n => UInt8.ofNat n.toNat) = (q.map fun n => UInt8.ofNat n.toNat) ↔ p = q := by
  constructor
  · intro h
    apply List.ext_getElem
    · have := congrArg List.length h
      simpa using this
    intro i h1 h2
    have h3 := congrArg (fun l => l[i]?) h
    simp only [List.getElem?_map, List.getElem?_eq_getElem h1, List.getElem?_eq_getElem h2, Option.map_some, Option.some.injEq] at h3
    have b1 := hp _ (List.getElem_mem h1)
    have b2 := hq _ (List.getElem_mem h2)
    have h4 := congrArg UInt8.toNat h3
    simp only [UInt8.toNat_ofNat'] at h4
    omega
  · intro h
    rw [h]
theorem bv_cells {p : List Int} (h : Bytes p) : (p.map fun n => UInt8.ofNat n.toNat).map Extern.Stop.cell = kv .u8 p := by
  rw [List.map_map]
  refine List.map_congr_left fun x hx => ?_
  have := h x hx
  obtain ⟨m, rfl⟩ : ∃ m : Nat, x = m := ⟨x.toNat, by omega⟩
  simp only [Function.comp_def, Extern.Stop.cell, Int.toNat_natCast, UInt8.toNat_ofNat']
  congr 1
  have hm : m % 2 ^ 8 = m := Nat.mod_eq_of_lt (by omega)
  rw [hm]
  rfl
theorem neq22 {p q : List Int} (hp : Bytes p) (hq : Bytes q) (h : p.length = 16) (g : q.length = 16) (w : World) : (binOp .neq 22 (.agg (kv .u8 p).toArray) (.agg (kv .u8 q).toArray)).run Try.prog w = .ok (.bool (!decide (p = q))) w := by
  have := run_equalIn_bytes (P := Try.prog) w 9998 22 5 16 Try.underlying22 Try.underlying5 size5 (p.map fun n => UInt8.ofNat n.toNat) (q.map fun n => UInt8.ofNat n.toNat) (by simp [h]) (by simp [g])
  rw [bv_cells hp, bv_cells hq] at this
  have e : ((p.map fun n => UInt8.ofNat n.toNat) == (q.map fun n => UInt8.ofNat n.toNat)) = decide (p = q) := by
    rw [Bool.eq_iff_iff, beq_iff_eq, decide_eq_true_iff]
    exact bytes_inj hp hq
  rw [e] at this
  rw [run_neq_struct, this]
  rfl
theorem neg22 (p q : List Int) (x y : Operand) (w : World) : (eqGuard .neq 22 x y (.agg (kv .u8 p).toArray) (.agg (kv .u8 q).toArray)).run Try.prog w = .ok () w := by kernel_rfl
theorem wpList_load_rowG {P : Program} {ops : Array Oper} {rest : List Oper} {o : Oper} {a : Act} {w : World} {Q : Exit → Act → World → Prop} (hw : Region.wanted o (yielded ops a.tmps) = true) (ty : TypeId) (x : Operand) (ho : o.op = .load ty x)
    (g : Nat) (hx : a.eval x = .pointer (some ⟨g, 0, none⟩)) (t : TypeId) (cs : Array Value) (fr : Nat × Nat) (d : TypeDesc) (hg : w.heap[g]? = some (.cells cs t fr))
    (hu : P.underlying ty = some d) (hd : (match d with | .struct _ | .array _ _ => true | _ => false) = true) (hi : (P.info? ty).map (·.size) = some cs.size)
    (h : wpList P ops Q rest (a.put o.dst (.agg cs)) w) : wpList P ops Q (o :: rest) a w := by
  unfold wpList
  rw [if_pos hw]
  exact .inl (wp_load_row ty x ho g hx t cs fr d hg hu hd hi h)
theorem cut1 {P : Program} {c : Code} {Q : Exit → Act → World → Prop} {a : Act} {w : World} (F : Nat → Nat → World → Prop) (p : Nat → Nat → Act → Act)
    (h1 : c.wp P (fun e a' w' => e = .normal ∧ ∃ g4 g5, a' = p g4 g5 a ∧ F g4 g5 w') a w) (h2 : ∀ g4 g5 w', F g4 g5 w' → Q .normal (p g4 g5 a) w') : c.wp P Q a w :=
  Code.wp_mono (fun e a' w' ⟨he, g4, g5, ha, hf⟩ => by subst he; subst ha; exact h2 g4 g5 w' hf) h1
theorem new_row68 (w : World) {A : Nat} (h : A + 1 < w.heap.size) : ∃ g, g = w.heap.size ∧ Row (w.alloc (.cells (kv .u8 (List.replicate 68 0)).toArray 33)) g 33 .u8 (List.replicate 68 0) ∧ A + 1 < g ∧ True := ⟨_, rfl, Blk.new _ _, h, trivial⟩
theorem wp_alloc_row {P : Program} {o : Oper} {a : Act} {w : World} {K : Act → World → Prop} {Q : Exit → Act → World → Prop} (t : TypeId) (ho : o.op = .alloc t) (cs : Array Value) (n : Nat) (hi : (P.info? t).map (fun i => (i.zero, i.size)) = some (some (.agg cs), n))
    (h : K (a.put o.dst (.pointer (some ⟨w.heap.size, 0, none⟩))) (w.alloc (.cells cs t))) : o.wp P a w K Q := by
  unfold Oper.wp execOp
  simp only [ho, Sem.run_bind, alloc_row hi, Result.andThen_ok, Sem.run_pure]
  exact h
theorem exec_alloc_row {P : Program} {o : Oper} {a : Act} {w : World} {t : TypeId} {cs : Array Value} {n : Nat} (ho : o.op = .alloc t) (hi : (P.info? t).map (fun i => (i.zero, i.size)) = some (some (.agg cs), n)) :
    (execOp a.eval o).run P w = .ok (.value (.pointer (some ⟨w.heap.size, 0, none⟩))) (w.alloc (.cells cs t)) := by
  unfold execOp
  simp only [ho, Sem.run_bind, alloc_row hi, Result.andThen_ok, Sem.run_pure]
theorem size22 : (Try.prog.info? 22).map (·.size) = some 16 := by kernel_rfl
set_option maxRecDepth 100000 in
set_option maxHeartbeats 4000000 in
theorem otsApart_walk (x0 x1 : List Int) (w : World) (l0 : x0.length = 16) (b0 : Bytes x0) (l1 : x1.length = 16) (b1 : Bytes x1) :
    Calls Try.prog 4 #[.agg (kv .u8 x0).toArray, .agg (kv .u8 x1).toArray] w fun e w' => e = .returned (.bool true) ∧ Below w.heap.size w w' := by
  have HL := Kp.mk (And.intro l0 l1)
  have HB := Kp.mk (And.intro b0 b1)
  have HC0 : Kp ((Try.prog.info? 22).map (·.size) = some (kv .u8 x0).toArray.size) := ⟨by rw [show (kv .u8 x0).toArray.size = 16 by simp [l0]]; exact size22⟩
  have HC1 : Kp ((Try.prog.info? 22).map (·.size) = some (kv .u8 x1).toArray.size) := ⟨by rw [show (kv .u8 x1).toArray.size = 16 by simp [l1]]; exact size22⟩
  obtain ⟨d0, hd0⟩ : ∃ d, d = digS x0 := ⟨_, rfl⟩
  obtain ⟨d1, hd1⟩ : ∃ d, d = digS x1 := ⟨_, rfl⟩
  have HD0 : Kp (digS x0 = d0) := ⟨hd0.symm⟩
  have HD1 : Kp (digS x1 = d1) := ⟨hd1.symm⟩
  have HL0 : Kp (d0.length = 68) := ⟨by rw [hd0]; exact digS_len _⟩
  have HL1 : Kp (d1.length = 68) := ⟨by rw [hd1]; exact digS_len _⟩
  have HCd0 : Kp ((Try.prog.info? 33).map (·.size) = some (kv .u8 d0).toArray.size) := ⟨by rw [show (kv .u8 d0).toArray.size = 68 by simp [HL0.out]]; exact size33⟩
  have HCd1 : Kp ((Try.prog.info? 33).map (·.size) = some (kv .u8 d1).toArray.size) := ⟨by rw [show (kv .u8 d1).toArray.size = 68 by simp [HL1.out]]; exact size33⟩
  have HZ0 : Kp ((kv .u8 (List.replicate 68 0)).toArray.size = (kv .u8 d0).toArray.size) := ⟨by rw [kv_size, kv_size, HL0.out]; simp⟩
  have HZ1 : Kp ((kv .u8 (List.replicate 68 0)).toArray.size = (kv .u8 d1).toArray.size) := ⟨by rw [kv_size, kv_size, HL1.out]; simp⟩
  clear l0 b0 l1 b1 hd0 hd1
  obtain ⟨A, hA⟩ : ∃ A, A = w.heap.size := ⟨_, rfl⟩
  have HA := Kp.mk hA
  have hbx := fun (w : World) => box_row (t := 22) (cs := kv .u8 x0) HC0.out w
  have hby := fun (w : World) => box_row (t := 22) (cs := kv .u8 x1) HC1.out w
  go_enter Try.func4, Try.ntmps4
  go_wp2_with (first | (refine wpList_box_eq rfl 22 (.tmp 0) rfl _ rfl _ _ (hbx _) ?_) | (refine wpList_box_eq rfl 22 (.tmp 1) rfl _ rfl _ _ (hby _) ?_))
  rw [← hA]
  refine wp_world (fun w2 => Row w2 A 22 .u8 x0 ∧ Row w2 (A + 1) 22 .u8 x1 ∧ Below A w w2) ⟨(Blk.newAt (w := w) (.cells (kv .u8 x0).toArray 22) hA).old _, Blk.newAt _ (by rw [hA]; simp), by rw [hA]; exact more (more (Below.refl _ _) _) _⟩ ?_
  rintro w2 ⟨h1, h2, h3⟩
  have G1 := Kp.mk h1
  have G2 := Kp.mk h2
  have G3 := Kp.mk h3
  clear h1 h2 h3 hA hbx hby
  refine cut1 (fun g4 g5 w' => Row w' g4 33 .u8 d0 ∧ Row w' g5 33 .u8 d1 ∧ g4 ≠ g5 ∧ A + 1 < g4 ∧ A + 1 < g5 ∧ Row w' A 22 .u8 x0 ∧ Row w' (A + 1) 22 .u8 x1 ∧ Below A w w')
    (fun g4 g5 a => ((((((a.put (some 10) (.agg (kv .u8 x0).toArray)).put (some 11) (.agg (kv .u8 d0).toArray)).put (some 12) (.agg (kv .u8 x1).toArray)).put (some 13) (.agg (kv .u8 d1).toArray)).put (some 5) (.pointer (some ⟨g4, 0, none⟩))).put (some 6) (.pointer (some ⟨g5, 0, none⟩)))) ?_ ?_
  · refine wp_region_held_drew (S := fun w' => Row w' A 22 .u8 x0 ∧ Row w' (A + 1) 22 .u8 x1 ∧ Below A w w') (by kernel_rfl) ⟨G1.out.drew, G2.out.drew, G3.out.drew⟩ (fun hH => ?_)
    have HW0 := Kp.mk (And.intro G1.out.drew (And.intro G2.out.drew G3.out.drew))
    refine wpAnyH_take (i := 0) (oi := { dst := some 10, op := Go.Op.load 22 (Go.Operand.tmp 2), type := 22, pos := "law.go:49", after := #[], guard := none }) (v := .agg (kv .u8 x0).toArray) rfl (by kernel_rfl) (by kernel_rfl) (by kernel_rfl) (fun _ _ _ h => by cases h.1) (Or.inl ⟨by rfl, fun w hS => exec_load_blk 22 (.tmp 2) rfl A rfl 22 _ (0, 0) _ hS.1 Try.underlying22 rfl HC0.out⟩) hH ?_
    simp only [Act.put, List.setIfInBounds_toArray, List.set_cons_zero, List.set_cons_succ]
    refine wpAnyH_take (i := 2) (oi := { dst := some 12, op := Go.Op.load 22 (Go.Operand.tmp 3), type := 22, pos := "law.go:49", after := #[], guard := none }) (v := .agg (kv .u8 x1).toArray) rfl (by kernel_rfl) (by kernel_rfl) (by kernel_rfl) (fun _ _ _ h => by cases h.1) (Or.inl ⟨by rfl, fun w hS => exec_load_blk 22 (.tmp 3) rfl (A + 1) rfl 22 _ (0, 0) _ hS.2.1 Try.underlying22 rfl HC1.out⟩) hH ?_
    simp only [Act.put, List.setIfInBounds_toArray, List.set_cons_zero, List.set_cons_succ]
    refine wpAnyH_ready (rs := [1, 4, 5]) (by kernel_rfl) (by simp) ?_
    refine AllReadyH.cons (o := { dst := some 11, op := Go.Op.call { callee := Go.Callee.value (Go.Operand.func 8), args := #[Go.Operand.tmp 10], argTypes := #[43] }, type := 33, pos := "law.go:49", after := #[{ on := 0, ground := Go.Ground.data }], guard := none }) rfl (fun K hK => ?_) (AllReadyH.cons (o := { dst := some 5, op := Go.Op.alloc 33, type := 0, pos := "law.go:49", after := #[], guard := none }) rfl (fun K hK => ?_) (AllReadyH.cons (o := { dst := some 6, op := Go.Op.alloc 33, type := 0, pos := "law.go:49", after := #[], guard := none }) rfl (fun K hK => ?_) AllReadyH.nil))
    · go_simp
      refine (digits_any x0 _ HL.out.1 HB.out.1).mono ?_
      rintro r wn1 ⟨rfl, hb⟩
      rw [HD0.out]
      refine hK.out _ _ ⟨hH.1.keep hb, hH.2.1.keep hb, hH.2.2.trans (hb.mono (Nat.le_of_lt hH.1.lt))⟩ (fun hHn => ?_)
      clear hK K
      try simp only [Act.put, List.setIfInBounds_toArray, List.set_cons_zero, List.set_cons_succ]
      clear hb hH
      have hH := hHn
      clear hHn
      refine wpAnyH_ready (rs := [3, 4, 5]) (by kernel_rfl) (by simp) ?_
      refine AllReadyH.cons (o := { dst := some 13, op := Go.Op.call { callee := Go.Callee.value (Go.Operand.func 8), args := #[Go.Operand.tmp 12], argTypes := #[43] }, type := 33, pos := "law.go:49", after := #[{ on := 2, ground := Go.Ground.data }, { on := 1, ground := Go.Ground.chain }], guard := none }) rfl (fun K hK => ?_) (AllReadyH.cons (o := { dst := some 5, op := Go.Op.alloc 33, type := 0, pos := "law.go:49", after := #[], guard := none }) rfl (fun K hK => ?_) (AllReadyH.cons (o := { dst := some 6, op := Go.Op.alloc 33, type := 0, pos := "law.go:49", after := #[], guard := none }) rfl (fun K hK => ?_) AllReadyH.nil))
      · go_simp
        refine (digits_any x1 _ HL.out.2 HB.out.2).mono ?_
        rintro r wn2 ⟨rfl, hb⟩
        rw [HD1.out]
        refine hK.out _ _ ⟨hH.1.keep hb, hH.2.1.keep hb, hH.2.2.trans (hb.mono (Nat.le_of_lt hH.1.lt))⟩ (fun hHn => ?_)
        clear hK K
        try simp only [Act.put, List.setIfInBounds_toArray, List.set_cons_zero, List.set_cons_succ]
        clear hb hH
        have hH := hHn
        clear hHn
        refine wpAnyH_ready (rs := [4, 5]) (by kernel_rfl) (by simp) ?_
        refine AllReadyH.cons (o := { dst := some 5, op := Go.Op.alloc 33, type := 0, pos := "law.go:49", after := #[], guard := none }) rfl (fun K hK => ?_) (AllReadyH.cons (o := { dst := some 6, op := Go.Op.alloc 33, type := 0, pos := "law.go:49", after := #[], guard := none }) rfl (fun K hK => ?_) AllReadyH.nil)
        · rw [if_pos (by rfl)]
          refine wp_alloc_row 33 rfl _ _ info33 ?_
          refine hK.out _ _ ⟨Row.alloc hH.1 _, Row.alloc hH.2.1 _, hH.2.2.alloc (Nat.le_of_lt hH.1.lt) _⟩ (fun hHn => ?_)
          clear hK K
          try simp only [Act.put, List.setIfInBounds_toArray, List.set_cons_zero, List.set_cons_succ]
          obtain ⟨g4, eg4, R4_3, hlt, hgs⟩ := new_row68 _ hH.2.1.lt
          try rw [← eg4] at hHn
          try rw [← eg4]
          have E4 := Kp.mk eg4
          clear eg4
          have hg4 : A + 1 < g4 := hlt
          clear hlt hgs hH
          have hH := hHn
          clear hHn
          refine wpAnyH_ready (rs := [5]) (by kernel_rfl) (by simp) ?_
          refine AllReadyH.cons (o := { dst := some 6, op := Go.Op.alloc 33, type := 0, pos := "law.go:49", after := #[], guard := none }) rfl (fun K hK => ?_) AllReadyH.nil
          rw [if_pos (by rfl)]
          refine wp_alloc_row 33 rfl _ _ info33 ?_
          refine hK.out _ _ ⟨Row.alloc hH.1 _, Row.alloc hH.2.1 _, hH.2.2.alloc (Nat.le_of_lt hH.1.lt) _⟩ (fun hHn => ?_)
          clear hK K
          try simp only [Act.put, List.setIfInBounds_toArray, List.set_cons_zero, List.set_cons_succ]
          have R4_4 := Row.alloc R4_3 (.cells (kv .u8 (List.replicate 68 0)).toArray 33)
          obtain ⟨g5, eg5, R5_4, hlt, hgs⟩ := new_row68 _ hH.2.1.lt
          try rw [← eg5] at hHn
          try rw [← eg5]
          have E5 := Kp.mk eg5
          clear eg5
          have hg5 : A + 1 < g5 := hlt
          have hne : g4 ≠ g5 := by have := Row.lt R4_3; have := E5.out; omega
          clear hlt hgs hH
          have hH := hHn
          clear hHn
          refine wpAnyH_ready (rs := [6]) (by kernel_rfl) (by simp) ?_
          refine AllReadyH.cons (o := { dst := none, op := Go.Op.store 33 (Go.Operand.tmp 5) (Go.Operand.tmp 11), type := 0, pos := "law.go:49", after := #[{ on := 4, ground := Go.Ground.data }, { on := 1, ground := Go.Ground.data }, { on := 3, ground := Go.Ground.chain }, { on := 0, ground := Go.Ground.phase }, { on := 1, ground := Go.Ground.phase }, { on := 2, ground := Go.Ground.textOnly Go.Departure.lateStores }, { on := 3, ground := Go.Ground.textOnly Go.Departure.lateStoresUnsure }, { on := 4, ground := Go.Ground.phase }, { on := 5, ground := Go.Ground.phase }], guard := none }) rfl (fun K hK => ?_) AllReadyH.nil
          rw [if_pos (by rfl)]
          refine wp_store_row 33 (.tmp 5) (.tmp 11) rfl g4 (kv .u8 d0).toArray rfl rfl 33 _ R4_4 HCd0.out HZ0.out (kv_all _ _) ?_
          refine hK.out _ _ ⟨Row.otherRow hH.1 (by omega) _, Row.otherRow hH.2.1 (by omega) _, Below.row hH.2.2 (by omega) _⟩ (fun hHn => ?_)
          clear hK K
          try simp only [Act.put, List.setIfInBounds_toArray, List.set_cons_zero, List.set_cons_succ]
          have R4_5 := Row.setRow R4_4 d0
          have R5_5 := Row.otherRow (g := g4) R5_4 (Ne.symm hne) (kv .u8 d0).toArray
          clear hH
          have hH := hHn
          clear hHn
          refine wpAnyH_ready (rs := [7]) (by kernel_rfl) (by simp) ?_
          refine AllReadyH.cons (o := { dst := none, op := Go.Op.store 33 (Go.Operand.tmp 6) (Go.Operand.tmp 13), type := 0, pos := "law.go:49", after := #[{ on := 5, ground := Go.Ground.data }, { on := 3, ground := Go.Ground.data }, { on := 6, ground := Go.Ground.chain }, { on := 0, ground := Go.Ground.phase }, { on := 1, ground := Go.Ground.phase }, { on := 2, ground := Go.Ground.phase }, { on := 3, ground := Go.Ground.phase }, { on := 4, ground := Go.Ground.phase }, { on := 5, ground := Go.Ground.phase }, { on := 6, ground := Go.Ground.phase }], guard := none }) rfl (fun K hK => ?_) AllReadyH.nil
          rw [if_pos (by rfl)]
          refine wp_store_row 33 (.tmp 6) (.tmp 13) rfl g5 (kv .u8 d1).toArray rfl rfl 33 _ R5_5 HCd1.out HZ1.out (kv_all _ _) ?_
          refine hK.out _ _ ⟨Row.otherRow hH.1 (by omega) _, Row.otherRow hH.2.1 (by omega) _, Below.row hH.2.2 (by omega) _⟩ (fun hHn => ?_)
          clear hK K
          try simp only [Act.put, List.setIfInBounds_toArray, List.set_cons_zero, List.set_cons_succ]
          have R5_6 := Row.setRow R5_5 d1
          have R4_6 := Row.otherRow (g := g5) R4_5 (hne) (kv .u8 d1).toArray
          clear hH
          have hH := hHn
          clear hHn
          refine wpAnyH_done (by kernel_rfl) ?_ _
          exact ⟨rfl, g4, g5, rfl, R4_6, R5_6, hne, hg4, hg5, hH.1, hH.2.1, hH.2.2⟩
        · rw [if_pos (by rfl)]
          refine wp_alloc_row 33 rfl _ _ info33 ?_
          refine hK.out _ _ ⟨Row.alloc hH.1 _, Row.alloc hH.2.1 _, hH.2.2.alloc (Nat.le_of_lt hH.1.lt) _⟩ (fun hHn => ?_)
          clear hK K
          try simp only [Act.put, List.setIfInBounds_toArray, List.set_cons_zero, List.set_cons_succ]
          obtain ⟨g5, eg5, R5_7, hlt, hgs⟩ := new_row68 _ hH.2.1.lt
          try rw [← eg5] at hHn
          try rw [← eg5]
          have E5 := Kp.mk eg5
          clear eg5
          have hg5 : A + 1 < g5 := hlt
          clear hlt hgs hH
          have hH := hHn
          clear hHn
          refine wpAnyH_ready (rs := [4]) (by kernel_rfl) (by simp) ?_
          refine AllReadyH.cons (o := { dst := some 5, op := Go.Op.alloc 33, type := 0, pos := "law.go:49", after := #[], guard := none }) rfl (fun K hK => ?_) AllReadyH.nil
          rw [if_pos (by rfl)]
          refine wp_alloc_row 33 rfl _ _ info33 ?_
          refine hK.out _ _ ⟨Row.alloc hH.1 _, Row.alloc hH.2.1 _, hH.2.2.alloc (Nat.le_of_lt hH.1.lt) _⟩ (fun hHn => ?_)
          clear hK K
          try simp only [Act.put, List.setIfInBounds_toArray, List.set_cons_zero, List.set_cons_succ]
          have R5_8 := Row.alloc R5_7 (.cells (kv .u8 (List.replicate 68 0)).toArray 33)
          obtain ⟨g4, eg4, R4_8, hlt, hgs⟩ := new_row68 _ hH.2.1.lt
          try rw [← eg4] at hHn
          try rw [← eg4]
          have E4 := Kp.mk eg4
          clear eg4
          have hg4 : A + 1 < g4 := hlt
          have hne : g4 ≠ g5 := by have := Row.lt R5_7; have := E4.out; omega
          clear hlt hgs hH
          have hH := hHn
          clear hHn
          refine wpAnyH_ready (rs := [6]) (by kernel_rfl) (by simp) ?_
          refine AllReadyH.cons (o := { dst := none, op := Go.Op.store 33 (Go.Operand.tmp 5) (Go.Operand.tmp 11), type := 0, pos := "law.go:49", after := #[{ on := 4, ground := Go.Ground.data }, { on := 1, ground := Go.Ground.data }, { on := 3, ground := Go.Ground.chain }, { on := 0, ground := Go.Ground.phase }, { on := 1, ground := Go.Ground.phase }, { on := 2, ground := Go.Ground.textOnly Go.Departure.lateStores }, { on := 3, ground := Go.Ground.textOnly Go.Departure.lateStoresUnsure }, { on := 4, ground := Go.Ground.phase }, { on := 5, ground := Go.Ground.phase }], guard := none }) rfl (fun K hK => ?_) AllReadyH.nil
          rw [if_pos (by rfl)]
          refine wp_store_row 33 (.tmp 5) (.tmp 11) rfl g4 (kv .u8 d0).toArray rfl rfl 33 _ R4_8 HCd0.out HZ0.out (kv_all _ _) ?_
          refine hK.out _ _ ⟨Row.otherRow hH.1 (by omega) _, Row.otherRow hH.2.1 (by omega) _, Below.row hH.2.2 (by omega) _⟩ (fun hHn => ?_)
          clear hK K
          try simp only [Act.put, List.setIfInBounds_toArray, List.set_cons_zero, List.set_cons_succ]
          have R4_9 := Row.setRow R4_8 d0
          have R5_9 := Row.otherRow (g := g4) R5_8 (Ne.symm hne) (kv .u8 d0).toArray
          clear hH
          have hH := hHn
          clear hHn
          refine wpAnyH_ready (rs := [7]) (by kernel_rfl) (by simp) ?_
          refine AllReadyH.cons (o := { dst := none, op := Go.Op.store 33 (Go.Operand.tmp 6) (Go.Operand.tmp 13), type := 0, pos := "law.go:49", after := #[{ on := 5, ground := Go.Ground.data }, { on := 3, ground := Go.Ground.data }, { on := 6, ground := Go.Ground.chain }, { on := 0, ground := Go.Ground.phase }, { on := 1, ground := Go.Ground.phase }, { on := 2, ground := Go.Ground.phase }, { on := 3, ground := Go.Ground.phase }, { on := 4, ground := Go.Ground.phase }, { on := 5, ground := Go.Ground.phase }, { on := 6, ground := Go.Ground.phase }], guard := none }) rfl (fun K hK => ?_) AllReadyH.nil
          rw [if_pos (by rfl)]
          refine wp_store_row 33 (.tmp 6) (.tmp 13) rfl g5 (kv .u8 d1).toArray rfl rfl 33 _ R5_9 HCd1.out HZ1.out (kv_all _ _) ?_
          refine hK.out _ _ ⟨Row.otherRow hH.1 (by omega) _, Row.otherRow hH.2.1 (by omega) _, Below.row hH.2.2 (by omega) _⟩ (fun hHn => ?_)
          clear hK K
          try simp only [Act.put, List.setIfInBounds_toArray, List.set_cons_zero, List.set_cons_succ]
          have R5_10 := Row.setRow R5_9 d1
          have R4_10 := Row.otherRow (g := g5) R4_9 (hne) (kv .u8 d1).toArray
          clear hH
          have hH := hHn
          clear hHn
          refine wpAnyH_done (by kernel_rfl) ?_ _
          exact ⟨rfl, g4, g5, rfl, R4_10, R5_10, hne, hg4, hg5, hH.1, hH.2.1, hH.2.2⟩
      · rw [if_pos (by rfl)]
        refine wp_alloc_row 33 rfl _ _ info33 ?_
        refine hK.out _ _ ⟨Row.alloc hH.1 _, Row.alloc hH.2.1 _, hH.2.2.alloc (Nat.le_of_lt hH.1.lt) _⟩ (fun hHn => ?_)
        clear hK K
        try simp only [Act.put, List.setIfInBounds_toArray, List.set_cons_zero, List.set_cons_succ]
        obtain ⟨g4, eg4, R4_11, hlt, hgs⟩ := new_row68 _ hH.2.1.lt
        try rw [← eg4] at hHn
        try rw [← eg4]
        have E4 := Kp.mk eg4
        clear eg4
        have hg4 : A + 1 < g4 := hlt
        clear hlt hgs hH
        have hH := hHn
        clear hHn
        refine wpAnyH_ready (rs := [3, 5]) (by kernel_rfl) (by simp) ?_
        refine AllReadyH.cons (o := { dst := some 13, op := Go.Op.call { callee := Go.Callee.value (Go.Operand.func 8), args := #[Go.Operand.tmp 12], argTypes := #[43] }, type := 33, pos := "law.go:49", after := #[{ on := 2, ground := Go.Ground.data }, { on := 1, ground := Go.Ground.chain }], guard := none }) rfl (fun K hK => ?_) (AllReadyH.cons (o := { dst := some 6, op := Go.Op.alloc 33, type := 0, pos := "law.go:49", after := #[], guard := none }) rfl (fun K hK => ?_) AllReadyH.nil)
        · go_simp
          refine (digits_any x1 _ HL.out.2 HB.out.2).mono ?_
          rintro r wn12 ⟨rfl, hb⟩
          rw [HD1.out]
          have R4_12 := Row.keep R4_11 hb
          refine hK.out _ _ ⟨hH.1.keep hb, hH.2.1.keep hb, hH.2.2.trans (hb.mono (Nat.le_of_lt hH.1.lt))⟩ (fun hHn => ?_)
          clear hK K
          try simp only [Act.put, List.setIfInBounds_toArray, List.set_cons_zero, List.set_cons_succ]
          clear hb hH
          have hH := hHn
          clear hHn
          refine wpAnyH_ready (rs := [5]) (by kernel_rfl) (by simp) ?_
          refine AllReadyH.cons (o := { dst := some 6, op := Go.Op.alloc 33, type := 0, pos := "law.go:49", after := #[], guard := none }) rfl (fun K hK => ?_) AllReadyH.nil
          rw [if_pos (by rfl)]
          refine wp_alloc_row 33 rfl _ _ info33 ?_
          refine hK.out _ _ ⟨Row.alloc hH.1 _, Row.alloc hH.2.1 _, hH.2.2.alloc (Nat.le_of_lt hH.1.lt) _⟩ (fun hHn => ?_)
          clear hK K
          try simp only [Act.put, List.setIfInBounds_toArray, List.set_cons_zero, List.set_cons_succ]
          have R4_13 := Row.alloc R4_12 (.cells (kv .u8 (List.replicate 68 0)).toArray 33)
          obtain ⟨g5, eg5, R5_13, hlt, hgs⟩ := new_row68 _ hH.2.1.lt
          try rw [← eg5] at hHn
          try rw [← eg5]
          have E5 := Kp.mk eg5
          clear eg5
          have hg5 : A + 1 < g5 := hlt
          have hne : g4 ≠ g5 := by have := Row.lt R4_12; have := E5.out; omega
          clear hlt hgs hH
          have hH := hHn
          clear hHn
          refine wpAnyH_ready (rs := [6]) (by kernel_rfl) (by simp) ?_
          refine AllReadyH.cons (o := { dst := none, op := Go.Op.store 33 (Go.Operand.tmp 5) (Go.Operand.tmp 11), type := 0, pos := "law.go:49", after := #[{ on := 4, ground := Go.Ground.data }, { on := 1, ground := Go.Ground.data }, { on := 3, ground := Go.Ground.chain }, { on := 0, ground := Go.Ground.phase }, { on := 1, ground := Go.Ground.phase }, { on := 2, ground := Go.Ground.textOnly Go.Departure.lateStores }, { on := 3, ground := Go.Ground.textOnly Go.Departure.lateStoresUnsure }, { on := 4, ground := Go.Ground.phase }, { on := 5, ground := Go.Ground.phase }], guard := none }) rfl (fun K hK => ?_) AllReadyH.nil
          rw [if_pos (by rfl)]
          refine wp_store_row 33 (.tmp 5) (.tmp 11) rfl g4 (kv .u8 d0).toArray rfl rfl 33 _ R4_13 HCd0.out HZ0.out (kv_all _ _) ?_
          refine hK.out _ _ ⟨Row.otherRow hH.1 (by omega) _, Row.otherRow hH.2.1 (by omega) _, Below.row hH.2.2 (by omega) _⟩ (fun hHn => ?_)
          clear hK K
          try simp only [Act.put, List.setIfInBounds_toArray, List.set_cons_zero, List.set_cons_succ]
          have R4_14 := Row.setRow R4_13 d0
          have R5_14 := Row.otherRow (g := g4) R5_13 (Ne.symm hne) (kv .u8 d0).toArray
          clear hH
          have hH := hHn
          clear hHn
          refine wpAnyH_ready (rs := [7]) (by kernel_rfl) (by simp) ?_
          refine AllReadyH.cons (o := { dst := none, op := Go.Op.store 33 (Go.Operand.tmp 6) (Go.Operand.tmp 13), type := 0, pos := "law.go:49", after := #[{ on := 5, ground := Go.Ground.data }, { on := 3, ground := Go.Ground.data }, { on := 6, ground := Go.Ground.chain }, { on := 0, ground := Go.Ground.phase }, { on := 1, ground := Go.Ground.phase }, { on := 2, ground := Go.Ground.phase }, { on := 3, ground := Go.Ground.phase }, { on := 4, ground := Go.Ground.phase }, { on := 5, ground := Go.Ground.phase }, { on := 6, ground := Go.Ground.phase }], guard := none }) rfl (fun K hK => ?_) AllReadyH.nil
          rw [if_pos (by rfl)]
          refine wp_store_row 33 (.tmp 6) (.tmp 13) rfl g5 (kv .u8 d1).toArray rfl rfl 33 _ R5_14 HCd1.out HZ1.out (kv_all _ _) ?_
          refine hK.out _ _ ⟨Row.otherRow hH.1 (by omega) _, Row.otherRow hH.2.1 (by omega) _, Below.row hH.2.2 (by omega) _⟩ (fun hHn => ?_)
          clear hK K
          try simp only [Act.put, List.setIfInBounds_toArray, List.set_cons_zero, List.set_cons_succ]
          have R5_15 := Row.setRow R5_14 d1
          have R4_15 := Row.otherRow (g := g5) R4_14 (hne) (kv .u8 d1).toArray
          clear hH
          have hH := hHn
          clear hHn
          refine wpAnyH_done (by kernel_rfl) ?_ _
          exact ⟨rfl, g4, g5, rfl, R4_15, R5_15, hne, hg4, hg5, hH.1, hH.2.1, hH.2.2⟩
        · rw [if_pos (by rfl)]
          refine wp_alloc_row 33 rfl _ _ info33 ?_
          refine hK.out _ _ ⟨Row.alloc hH.1 _, Row.alloc hH.2.1 _, hH.2.2.alloc (Nat.le_of_lt hH.1.lt) _⟩ (fun hHn => ?_)
          clear hK K
          try simp only [Act.put, List.setIfInBounds_toArray, List.set_cons_zero, List.set_cons_succ]
          have R4_16 := Row.alloc R4_11 (.cells (kv .u8 (List.replicate 68 0)).toArray 33)
          obtain ⟨g5, eg5, R5_16, hlt, hgs⟩ := new_row68 _ hH.2.1.lt
          try rw [← eg5] at hHn
          try rw [← eg5]
          have E5 := Kp.mk eg5
          clear eg5
          have hg5 : A + 1 < g5 := hlt
          have hne : g4 ≠ g5 := by have := Row.lt R4_11; have := E5.out; omega
          clear hlt hgs hH
          have hH := hHn
          clear hHn
          refine wpAnyH_ready (rs := [3]) (by kernel_rfl) (by simp) ?_
          refine AllReadyH.cons (o := { dst := some 13, op := Go.Op.call { callee := Go.Callee.value (Go.Operand.func 8), args := #[Go.Operand.tmp 12], argTypes := #[43] }, type := 33, pos := "law.go:49", after := #[{ on := 2, ground := Go.Ground.data }, { on := 1, ground := Go.Ground.chain }], guard := none }) rfl (fun K hK => ?_) AllReadyH.nil
          go_simp
          refine (digits_any x1 _ HL.out.2 HB.out.2).mono ?_
          rintro r wn17 ⟨rfl, hb⟩
          rw [HD1.out]
          have R4_17 := Row.keep R4_16 hb
          have R5_17 := Row.keep R5_16 hb
          refine hK.out _ _ ⟨hH.1.keep hb, hH.2.1.keep hb, hH.2.2.trans (hb.mono (Nat.le_of_lt hH.1.lt))⟩ (fun hHn => ?_)
          clear hK K
          try simp only [Act.put, List.setIfInBounds_toArray, List.set_cons_zero, List.set_cons_succ]
          clear hb hH
          have hH := hHn
          clear hHn
          refine wpAnyH_ready (rs := [6]) (by kernel_rfl) (by simp) ?_
          refine AllReadyH.cons (o := { dst := none, op := Go.Op.store 33 (Go.Operand.tmp 5) (Go.Operand.tmp 11), type := 0, pos := "law.go:49", after := #[{ on := 4, ground := Go.Ground.data }, { on := 1, ground := Go.Ground.data }, { on := 3, ground := Go.Ground.chain }, { on := 0, ground := Go.Ground.phase }, { on := 1, ground := Go.Ground.phase }, { on := 2, ground := Go.Ground.textOnly Go.Departure.lateStores }, { on := 3, ground := Go.Ground.textOnly Go.Departure.lateStoresUnsure }, { on := 4, ground := Go.Ground.phase }, { on := 5, ground := Go.Ground.phase }], guard := none }) rfl (fun K hK => ?_) AllReadyH.nil
          rw [if_pos (by rfl)]
          refine wp_store_row 33 (.tmp 5) (.tmp 11) rfl g4 (kv .u8 d0).toArray rfl rfl 33 _ R4_17 HCd0.out HZ0.out (kv_all _ _) ?_
          refine hK.out _ _ ⟨Row.otherRow hH.1 (by omega) _, Row.otherRow hH.2.1 (by omega) _, Below.row hH.2.2 (by omega) _⟩ (fun hHn => ?_)
          clear hK K
          try simp only [Act.put, List.setIfInBounds_toArray, List.set_cons_zero, List.set_cons_succ]
          have R4_18 := Row.setRow R4_17 d0
          have R5_18 := Row.otherRow (g := g4) R5_17 (Ne.symm hne) (kv .u8 d0).toArray
          clear hH
          have hH := hHn
          clear hHn
          refine wpAnyH_ready (rs := [7]) (by kernel_rfl) (by simp) ?_
          refine AllReadyH.cons (o := { dst := none, op := Go.Op.store 33 (Go.Operand.tmp 6) (Go.Operand.tmp 13), type := 0, pos := "law.go:49", after := #[{ on := 5, ground := Go.Ground.data }, { on := 3, ground := Go.Ground.data }, { on := 6, ground := Go.Ground.chain }, { on := 0, ground := Go.Ground.phase }, { on := 1, ground := Go.Ground.phase }, { on := 2, ground := Go.Ground.phase }, { on := 3, ground := Go.Ground.phase }, { on := 4, ground := Go.Ground.phase }, { on := 5, ground := Go.Ground.phase }, { on := 6, ground := Go.Ground.phase }], guard := none }) rfl (fun K hK => ?_) AllReadyH.nil
          rw [if_pos (by rfl)]
          refine wp_store_row 33 (.tmp 6) (.tmp 13) rfl g5 (kv .u8 d1).toArray rfl rfl 33 _ R5_18 HCd1.out HZ1.out (kv_all _ _) ?_
          refine hK.out _ _ ⟨Row.otherRow hH.1 (by omega) _, Row.otherRow hH.2.1 (by omega) _, Below.row hH.2.2 (by omega) _⟩ (fun hHn => ?_)
          clear hK K
          try simp only [Act.put, List.setIfInBounds_toArray, List.set_cons_zero, List.set_cons_succ]
          have R5_19 := Row.setRow R5_18 d1
          have R4_19 := Row.otherRow (g := g5) R4_18 (hne) (kv .u8 d1).toArray
          clear hH
          have hH := hHn
          clear hHn
          refine wpAnyH_done (by kernel_rfl) ?_ _
          exact ⟨rfl, g4, g5, rfl, R4_19, R5_19, hne, hg4, hg5, hH.1, hH.2.1, hH.2.2⟩
      · rw [if_pos (by rfl)]
        refine wp_alloc_row 33 rfl _ _ info33 ?_
        refine hK.out _ _ ⟨Row.alloc hH.1 _, Row.alloc hH.2.1 _, hH.2.2.alloc (Nat.le_of_lt hH.1.lt) _⟩ (fun hHn => ?_)
        clear hK K
        try simp only [Act.put, List.setIfInBounds_toArray, List.set_cons_zero, List.set_cons_succ]
        obtain ⟨g5, eg5, R5_20, hlt, hgs⟩ := new_row68 _ hH.2.1.lt
        try rw [← eg5] at hHn
        try rw [← eg5]
        have E5 := Kp.mk eg5
        clear eg5
        have hg5 : A + 1 < g5 := hlt
        clear hlt hgs hH
        have hH := hHn
        clear hHn
        refine wpAnyH_ready (rs := [3, 4]) (by kernel_rfl) (by simp) ?_
        refine AllReadyH.cons (o := { dst := some 13, op := Go.Op.call { callee := Go.Callee.value (Go.Operand.func 8), args := #[Go.Operand.tmp 12], argTypes := #[43] }, type := 33, pos := "law.go:49", after := #[{ on := 2, ground := Go.Ground.data }, { on := 1, ground := Go.Ground.chain }], guard := none }) rfl (fun K hK => ?_) (AllReadyH.cons (o := { dst := some 5, op := Go.Op.alloc 33, type := 0, pos := "law.go:49", after := #[], guard := none }) rfl (fun K hK => ?_) AllReadyH.nil)
        · go_simp
          refine (digits_any x1 _ HL.out.2 HB.out.2).mono ?_
          rintro r wn21 ⟨rfl, hb⟩
          rw [HD1.out]
          have R5_21 := Row.keep R5_20 hb
          refine hK.out _ _ ⟨hH.1.keep hb, hH.2.1.keep hb, hH.2.2.trans (hb.mono (Nat.le_of_lt hH.1.lt))⟩ (fun hHn => ?_)
          clear hK K
          try simp only [Act.put, List.setIfInBounds_toArray, List.set_cons_zero, List.set_cons_succ]
          clear hb hH
          have hH := hHn
          clear hHn
          refine wpAnyH_ready (rs := [4]) (by kernel_rfl) (by simp) ?_
          refine AllReadyH.cons (o := { dst := some 5, op := Go.Op.alloc 33, type := 0, pos := "law.go:49", after := #[], guard := none }) rfl (fun K hK => ?_) AllReadyH.nil
          rw [if_pos (by rfl)]
          refine wp_alloc_row 33 rfl _ _ info33 ?_
          refine hK.out _ _ ⟨Row.alloc hH.1 _, Row.alloc hH.2.1 _, hH.2.2.alloc (Nat.le_of_lt hH.1.lt) _⟩ (fun hHn => ?_)
          clear hK K
          try simp only [Act.put, List.setIfInBounds_toArray, List.set_cons_zero, List.set_cons_succ]
          have R5_22 := Row.alloc R5_21 (.cells (kv .u8 (List.replicate 68 0)).toArray 33)
          obtain ⟨g4, eg4, R4_22, hlt, hgs⟩ := new_row68 _ hH.2.1.lt
          try rw [← eg4] at hHn
          try rw [← eg4]
          have E4 := Kp.mk eg4
          clear eg4
          have hg4 : A + 1 < g4 := hlt
          have hne : g4 ≠ g5 := by have := Row.lt R5_21; have := E4.out; omega
          clear hlt hgs hH
          have hH := hHn
          clear hHn
          refine wpAnyH_ready (rs := [6]) (by kernel_rfl) (by simp) ?_
          refine AllReadyH.cons (o := { dst := none, op := Go.Op.store 33 (Go.Operand.tmp 5) (Go.Operand.tmp 11), type := 0, pos := "law.go:49", after := #[{ on := 4, ground := Go.Ground.data }, { on := 1, ground := Go.Ground.data }, { on := 3, ground := Go.Ground.chain }, { on := 0, ground := Go.Ground.phase }, { on := 1, ground := Go.Ground.phase }, { on := 2, ground := Go.Ground.textOnly Go.Departure.lateStores }, { on := 3, ground := Go.Ground.textOnly Go.Departure.lateStoresUnsure }, { on := 4, ground := Go.Ground.phase }, { on := 5, ground := Go.Ground.phase }], guard := none }) rfl (fun K hK => ?_) AllReadyH.nil
          rw [if_pos (by rfl)]
          refine wp_store_row 33 (.tmp 5) (.tmp 11) rfl g4 (kv .u8 d0).toArray rfl rfl 33 _ R4_22 HCd0.out HZ0.out (kv_all _ _) ?_
          refine hK.out _ _ ⟨Row.otherRow hH.1 (by omega) _, Row.otherRow hH.2.1 (by omega) _, Below.row hH.2.2 (by omega) _⟩ (fun hHn => ?_)
          clear hK K
          try simp only [Act.put, List.setIfInBounds_toArray, List.set_cons_zero, List.set_cons_succ]
          have R4_23 := Row.setRow R4_22 d0
          have R5_23 := Row.otherRow (g := g4) R5_22 (Ne.symm hne) (kv .u8 d0).toArray
          clear hH
          have hH := hHn
          clear hHn
          refine wpAnyH_ready (rs := [7]) (by kernel_rfl) (by simp) ?_
          refine AllReadyH.cons (o := { dst := none, op := Go.Op.store 33 (Go.Operand.tmp 6) (Go.Operand.tmp 13), type := 0, pos := "law.go:49", after := #[{ on := 5, ground := Go.Ground.data }, { on := 3, ground := Go.Ground.data }, { on := 6, ground := Go.Ground.chain }, { on := 0, ground := Go.Ground.phase }, { on := 1, ground := Go.Ground.phase }, { on := 2, ground := Go.Ground.phase }, { on := 3, ground := Go.Ground.phase }, { on := 4, ground := Go.Ground.phase }, { on := 5, ground := Go.Ground.phase }, { on := 6, ground := Go.Ground.phase }], guard := none }) rfl (fun K hK => ?_) AllReadyH.nil
          rw [if_pos (by rfl)]
          refine wp_store_row 33 (.tmp 6) (.tmp 13) rfl g5 (kv .u8 d1).toArray rfl rfl 33 _ R5_23 HCd1.out HZ1.out (kv_all _ _) ?_
          refine hK.out _ _ ⟨Row.otherRow hH.1 (by omega) _, Row.otherRow hH.2.1 (by omega) _, Below.row hH.2.2 (by omega) _⟩ (fun hHn => ?_)
          clear hK K
          try simp only [Act.put, List.setIfInBounds_toArray, List.set_cons_zero, List.set_cons_succ]
          have R5_24 := Row.setRow R5_23 d1
          have R4_24 := Row.otherRow (g := g5) R4_23 (hne) (kv .u8 d1).toArray
          clear hH
          have hH := hHn
          clear hHn
          refine wpAnyH_done (by kernel_rfl) ?_ _
          exact ⟨rfl, g4, g5, rfl, R4_24, R5_24, hne, hg4, hg5, hH.1, hH.2.1, hH.2.2⟩
        · rw [if_pos (by rfl)]
          refine wp_alloc_row 33 rfl _ _ info33 ?_
          refine hK.out _ _ ⟨Row.alloc hH.1 _, Row.alloc hH.2.1 _, hH.2.2.alloc (Nat.le_of_lt hH.1.lt) _⟩ (fun hHn => ?_)
          clear hK K
          try simp only [Act.put, List.setIfInBounds_toArray, List.set_cons_zero, List.set_cons_succ]
          have R5_25 := Row.alloc R5_20 (.cells (kv .u8 (List.replicate 68 0)).toArray 33)
          obtain ⟨g4, eg4, R4_25, hlt, hgs⟩ := new_row68 _ hH.2.1.lt
          try rw [← eg4] at hHn
          try rw [← eg4]
          have E4 := Kp.mk eg4
          clear eg4
          have hg4 : A + 1 < g4 := hlt
          have hne : g4 ≠ g5 := by have := Row.lt R5_20; have := E4.out; omega
          clear hlt hgs hH
          have hH := hHn
          clear hHn
          refine wpAnyH_ready (rs := [3]) (by kernel_rfl) (by simp) ?_
          refine AllReadyH.cons (o := { dst := some 13, op := Go.Op.call { callee := Go.Callee.value (Go.Operand.func 8), args := #[Go.Operand.tmp 12], argTypes := #[43] }, type := 33, pos := "law.go:49", after := #[{ on := 2, ground := Go.Ground.data }, { on := 1, ground := Go.Ground.chain }], guard := none }) rfl (fun K hK => ?_) AllReadyH.nil
          go_simp
          refine (digits_any x1 _ HL.out.2 HB.out.2).mono ?_
          rintro r wn26 ⟨rfl, hb⟩
          rw [HD1.out]
          have R5_26 := Row.keep R5_25 hb
          have R4_26 := Row.keep R4_25 hb
          refine hK.out _ _ ⟨hH.1.keep hb, hH.2.1.keep hb, hH.2.2.trans (hb.mono (Nat.le_of_lt hH.1.lt))⟩ (fun hHn => ?_)
          clear hK K
          try simp only [Act.put, List.setIfInBounds_toArray, List.set_cons_zero, List.set_cons_succ]
          clear hb hH
          have hH := hHn
          clear hHn
          refine wpAnyH_ready (rs := [6]) (by kernel_rfl) (by simp) ?_
          refine AllReadyH.cons (o := { dst := none, op := Go.Op.store 33 (Go.Operand.tmp 5) (Go.Operand.tmp 11), type := 0, pos := "law.go:49", after := #[{ on := 4, ground := Go.Ground.data }, { on := 1, ground := Go.Ground.data }, { on := 3, ground := Go.Ground.chain }, { on := 0, ground := Go.Ground.phase }, { on := 1, ground := Go.Ground.phase }, { on := 2, ground := Go.Ground.textOnly Go.Departure.lateStores }, { on := 3, ground := Go.Ground.textOnly Go.Departure.lateStoresUnsure }, { on := 4, ground := Go.Ground.phase }, { on := 5, ground := Go.Ground.phase }], guard := none }) rfl (fun K hK => ?_) AllReadyH.nil
          rw [if_pos (by rfl)]
          refine wp_store_row 33 (.tmp 5) (.tmp 11) rfl g4 (kv .u8 d0).toArray rfl rfl 33 _ R4_26 HCd0.out HZ0.out (kv_all _ _) ?_
          refine hK.out _ _ ⟨Row.otherRow hH.1 (by omega) _, Row.otherRow hH.2.1 (by omega) _, Below.row hH.2.2 (by omega) _⟩ (fun hHn => ?_)
          clear hK K
          try simp only [Act.put, List.setIfInBounds_toArray, List.set_cons_zero, List.set_cons_succ]
          have R4_27 := Row.setRow R4_26 d0
          have R5_27 := Row.otherRow (g := g4) R5_26 (Ne.symm hne) (kv .u8 d0).toArray
          clear hH
          have hH := hHn
          clear hHn
          refine wpAnyH_ready (rs := [7]) (by kernel_rfl) (by simp) ?_
          refine AllReadyH.cons (o := { dst := none, op := Go.Op.store 33 (Go.Operand.tmp 6) (Go.Operand.tmp 13), type := 0, pos := "law.go:49", after := #[{ on := 5, ground := Go.Ground.data }, { on := 3, ground := Go.Ground.data }, { on := 6, ground := Go.Ground.chain }, { on := 0, ground := Go.Ground.phase }, { on := 1, ground := Go.Ground.phase }, { on := 2, ground := Go.Ground.phase }, { on := 3, ground := Go.Ground.phase }, { on := 4, ground := Go.Ground.phase }, { on := 5, ground := Go.Ground.phase }, { on := 6, ground := Go.Ground.phase }], guard := none }) rfl (fun K hK => ?_) AllReadyH.nil
          rw [if_pos (by rfl)]
          refine wp_store_row 33 (.tmp 6) (.tmp 13) rfl g5 (kv .u8 d1).toArray rfl rfl 33 _ R5_27 HCd1.out HZ1.out (kv_all _ _) ?_
          refine hK.out _ _ ⟨Row.otherRow hH.1 (by omega) _, Row.otherRow hH.2.1 (by omega) _, Below.row hH.2.2 (by omega) _⟩ (fun hHn => ?_)
          clear hK K
          try simp only [Act.put, List.setIfInBounds_toArray, List.set_cons_zero, List.set_cons_succ]
          have R5_28 := Row.setRow R5_27 d1
          have R4_28 := Row.otherRow (g := g5) R4_27 (hne) (kv .u8 d1).toArray
          clear hH
          have hH := hHn
          clear hHn
          refine wpAnyH_done (by kernel_rfl) ?_ _
          exact ⟨rfl, g4, g5, rfl, R4_28, R5_28, hne, hg4, hg5, hH.1, hH.2.1, hH.2.2⟩
    · rw [if_pos (by rfl)]
      refine wp_alloc_row 33 rfl _ _ info33 ?_
      refine hK.out _ _ ⟨Row.alloc hH.1 _, Row.alloc hH.2.1 _, hH.2.2.alloc (Nat.le_of_lt hH.1.lt) _⟩ (fun hHn => ?_)
      clear hK K
      try simp only [Act.put, List.setIfInBounds_toArray, List.set_cons_zero, List.set_cons_succ]
      obtain ⟨g4, eg4, R4_29, hlt, hgs⟩ := new_row68 _ hH.2.1.lt
      try rw [← eg4] at hHn
      try rw [← eg4]
      have E4 := Kp.mk eg4
      clear eg4
      have hg4 : A + 1 < g4 := hlt
      clear hlt hgs hH
      have hH := hHn
      clear hHn
      refine wpAnyH_ready (rs := [1, 5]) (by kernel_rfl) (by simp) ?_
      refine AllReadyH.cons (o := { dst := some 11, op := Go.Op.call { callee := Go.Callee.value (Go.Operand.func 8), args := #[Go.Operand.tmp 10], argTypes := #[43] }, type := 33, pos := "law.go:49", after := #[{ on := 0, ground := Go.Ground.data }], guard := none }) rfl (fun K hK => ?_) (AllReadyH.cons (o := { dst := some 6, op := Go.Op.alloc 33, type := 0, pos := "law.go:49", after := #[], guard := none }) rfl (fun K hK => ?_) AllReadyH.nil)
      · go_simp
        refine (digits_any x0 _ HL.out.1 HB.out.1).mono ?_
        rintro r wn30 ⟨rfl, hb⟩
        rw [HD0.out]
        have R4_30 := Row.keep R4_29 hb
        refine hK.out _ _ ⟨hH.1.keep hb, hH.2.1.keep hb, hH.2.2.trans (hb.mono (Nat.le_of_lt hH.1.lt))⟩ (fun hHn => ?_)
        clear hK K
        try simp only [Act.put, List.setIfInBounds_toArray, List.set_cons_zero, List.set_cons_succ]
        clear hb hH
        have hH := hHn
        clear hHn
        refine wpAnyH_ready (rs := [3, 5]) (by kernel_rfl) (by simp) ?_
        refine AllReadyH.cons (o := { dst := some 13, op := Go.Op.call { callee := Go.Callee.value (Go.Operand.func 8), args := #[Go.Operand.tmp 12], argTypes := #[43] }, type := 33, pos := "law.go:49", after := #[{ on := 2, ground := Go.Ground.data }, { on := 1, ground := Go.Ground.chain }], guard := none }) rfl (fun K hK => ?_) (AllReadyH.cons (o := { dst := some 6, op := Go.Op.alloc 33, type := 0, pos := "law.go:49", after := #[], guard := none }) rfl (fun K hK => ?_) AllReadyH.nil)
        · go_simp
          refine (digits_any x1 _ HL.out.2 HB.out.2).mono ?_
          rintro r wn31 ⟨rfl, hb⟩
          rw [HD1.out]
          have R4_31 := Row.keep R4_30 hb
          refine hK.out _ _ ⟨hH.1.keep hb, hH.2.1.keep hb, hH.2.2.trans (hb.mono (Nat.le_of_lt hH.1.lt))⟩ (fun hHn => ?_)
          clear hK K
          try simp only [Act.put, List.setIfInBounds_toArray, List.set_cons_zero, List.set_cons_succ]
          clear hb hH
          have hH := hHn
          clear hHn
          refine wpAnyH_ready (rs := [5]) (by kernel_rfl) (by simp) ?_
          refine AllReadyH.cons (o := { dst := some 6, op := Go.Op.alloc 33, type := 0, pos := "law.go:49", after := #[], guard := none }) rfl (fun K hK => ?_) AllReadyH.nil
          rw [if_pos (by rfl)]
          refine wp_alloc_row 33 rfl _ _ info33 ?_
          refine hK.out _ _ ⟨Row.alloc hH.1 _, Row.alloc hH.2.1 _, hH.2.2.alloc (Nat.le_of_lt hH.1.lt) _⟩ (fun hHn => ?_)
          clear hK K
          try simp only [Act.put, List.setIfInBounds_toArray, List.set_cons_zero, List.set_cons_succ]
          have R4_32 := Row.alloc R4_31 (.cells (kv .u8 (List.replicate 68 0)).toArray 33)
          obtain ⟨g5, eg5, R5_32, hlt, hgs⟩ := new_row68 _ hH.2.1.lt
          try rw [← eg5] at hHn
          try rw [← eg5]
          have E5 := Kp.mk eg5
          clear eg5
          have hg5 : A + 1 < g5 := hlt
          have hne : g4 ≠ g5 := by have := Row.lt R4_31; have := E5.out; omega
          clear hlt hgs hH
          have hH := hHn
          clear hHn
          refine wpAnyH_ready (rs := [6]) (by kernel_rfl) (by simp) ?_
          refine AllReadyH.cons (o := { dst := none, op := Go.Op.store 33 (Go.Operand.tmp 5) (Go.Operand.tmp 11), type := 0, pos := "law.go:49", after := #[{ on := 4, ground := Go.Ground.data }, { on := 1, ground := Go.Ground.data }, { on := 3, ground := Go.Ground.chain }, { on := 0, ground := Go.Ground.phase }, { on := 1, ground := Go.Ground.phase }, { on := 2, ground := Go.Ground.textOnly Go.Departure.lateStores }, { on := 3, ground := Go.Ground.textOnly Go.Departure.lateStoresUnsure }, { on := 4, ground := Go.Ground.phase }, { on := 5, ground := Go.Ground.phase }], guard := none }) rfl (fun K hK => ?_) AllReadyH.nil
          rw [if_pos (by rfl)]
          refine wp_store_row 33 (.tmp 5) (.tmp 11) rfl g4 (kv .u8 d0).toArray rfl rfl 33 _ R4_32 HCd0.out HZ0.out (kv_all _ _) ?_
          refine hK.out _ _ ⟨Row.otherRow hH.1 (by omega) _, Row.otherRow hH.2.1 (by omega) _, Below.row hH.2.2 (by omega) _⟩ (fun hHn => ?_)
          clear hK K
          try simp only [Act.put, List.setIfInBounds_toArray, List.set_cons_zero, List.set_cons_succ]
          have R4_33 := Row.setRow R4_32 d0
          have R5_33 := Row.otherRow (g := g4) R5_32 (Ne.symm hne) (kv .u8 d0).toArray
          clear hH
          have hH := hHn
          clear hHn
          refine wpAnyH_ready (rs := [7]) (by kernel_rfl) (by simp) ?_
          refine AllReadyH.cons (o := { dst := none, op := Go.Op.store 33 (Go.Operand.tmp 6) (Go.Operand.tmp 13), type := 0, pos := "law.go:49", after := #[{ on := 5, ground := Go.Ground.data }, { on := 3, ground := Go.Ground.data }, { on := 6, ground := Go.Ground.chain }, { on := 0, ground := Go.Ground.phase }, { on := 1, ground := Go.Ground.phase }, { on := 2, ground := Go.Ground.phase }, { on := 3, ground := Go.Ground.phase }, { on := 4, ground := Go.Ground.phase }, { on := 5, ground := Go.Ground.phase }, { on := 6, ground := Go.Ground.phase }], guard := none }) rfl (fun K hK => ?_) AllReadyH.nil
          rw [if_pos (by rfl)]
          refine wp_store_row 33 (.tmp 6) (.tmp 13) rfl g5 (kv .u8 d1).toArray rfl rfl 33 _ R5_33 HCd1.out HZ1.out (kv_all _ _) ?_
          refine hK.out _ _ ⟨Row.otherRow hH.1 (by omega) _, Row.otherRow hH.2.1 (by omega) _, Below.row hH.2.2 (by omega) _⟩ (fun hHn => ?_)
          clear hK K
          try simp only [Act.put, List.setIfInBounds_toArray, List.set_cons_zero, List.set_cons_succ]
          have R5_34 := Row.setRow R5_33 d1
          have R4_34 := Row.otherRow (g := g5) R4_33 (hne) (kv .u8 d1).toArray
          clear hH
          have hH := hHn
          clear hHn
          refine wpAnyH_done (by kernel_rfl) ?_ _
          exact ⟨rfl, g4, g5, rfl, R4_34, R5_34, hne, hg4, hg5, hH.1, hH.2.1, hH.2.2⟩
        · rw [if_pos (by rfl)]
          refine wp_alloc_row 33 rfl _ _ info33 ?_
          refine hK.out _ _ ⟨Row.alloc hH.1 _, Row.alloc hH.2.1 _, hH.2.2.alloc (Nat.le_of_lt hH.1.lt) _⟩ (fun hHn => ?_)
          clear hK K
          try simp only [Act.put, List.setIfInBounds_toArray, List.set_cons_zero, List.set_cons_succ]
          have R4_35 := Row.alloc R4_30 (.cells (kv .u8 (List.replicate 68 0)).toArray 33)
          obtain ⟨g5, eg5, R5_35, hlt, hgs⟩ := new_row68 _ hH.2.1.lt
          try rw [← eg5] at hHn
          try rw [← eg5]
          have E5 := Kp.mk eg5
          clear eg5
          have hg5 : A + 1 < g5 := hlt
          have hne : g4 ≠ g5 := by have := Row.lt R4_30; have := E5.out; omega
          clear hlt hgs hH
          have hH := hHn
          clear hHn
          refine wpAnyH_ready (rs := [3]) (by kernel_rfl) (by simp) ?_
          refine AllReadyH.cons (o := { dst := some 13, op := Go.Op.call { callee := Go.Callee.value (Go.Operand.func 8), args := #[Go.Operand.tmp 12], argTypes := #[43] }, type := 33, pos := "law.go:49", after := #[{ on := 2, ground := Go.Ground.data }, { on := 1, ground := Go.Ground.chain }], guard := none }) rfl (fun K hK => ?_) AllReadyH.nil
          go_simp
          refine (digits_any x1 _ HL.out.2 HB.out.2).mono ?_
          rintro r wn36 ⟨rfl, hb⟩
          rw [HD1.out]
          have R4_36 := Row.keep R4_35 hb
          have R5_36 := Row.keep R5_35 hb
          refine hK.out _ _ ⟨hH.1.keep hb, hH.2.1.keep hb, hH.2.2.trans (hb.mono (Nat.le_of_lt hH.1.lt))⟩ (fun hHn => ?_)
          clear hK K
          try simp only [Act.put, List.setIfInBounds_toArray, List.set_cons_zero, List.set_cons_succ]
          clear hb hH
          have hH := hHn
          clear hHn
          refine wpAnyH_ready (rs := [6]) (by kernel_rfl) (by simp) ?_
          refine AllReadyH.cons (o := { dst := none, op := Go.Op.store 33 (Go.Operand.tmp 5) (Go.Operand.tmp 11), type := 0, pos := "law.go:49", after := #[{ on := 4, ground := Go.Ground.data }, { on := 1, ground := Go.Ground.data }, { on := 3, ground := Go.Ground.chain }, { on := 0, ground := Go.Ground.phase }, { on := 1, ground := Go.Ground.phase }, { on := 2, ground := Go.Ground.textOnly Go.Departure.lateStores }, { on := 3, ground := Go.Ground.textOnly Go.Departure.lateStoresUnsure }, { on := 4, ground := Go.Ground.phase }, { on := 5, ground := Go.Ground.phase }], guard := none }) rfl (fun K hK => ?_) AllReadyH.nil
          rw [if_pos (by rfl)]
          refine wp_store_row 33 (.tmp 5) (.tmp 11) rfl g4 (kv .u8 d0).toArray rfl rfl 33 _ R4_36 HCd0.out HZ0.out (kv_all _ _) ?_
          refine hK.out _ _ ⟨Row.otherRow hH.1 (by omega) _, Row.otherRow hH.2.1 (by omega) _, Below.row hH.2.2 (by omega) _⟩ (fun hHn => ?_)
          clear hK K
          try simp only [Act.put, List.setIfInBounds_toArray, List.set_cons_zero, List.set_cons_succ]
          have R4_37 := Row.setRow R4_36 d0
          have R5_37 := Row.otherRow (g := g4) R5_36 (Ne.symm hne) (kv .u8 d0).toArray
          clear hH
          have hH := hHn
          clear hHn
          refine wpAnyH_ready (rs := [7]) (by kernel_rfl) (by simp) ?_
          refine AllReadyH.cons (o := { dst := none, op := Go.Op.store 33 (Go.Operand.tmp 6) (Go.Operand.tmp 13), type := 0, pos := "law.go:49", after := #[{ on := 5, ground := Go.Ground.data }, { on := 3, ground := Go.Ground.data }, { on := 6, ground := Go.Ground.chain }, { on := 0, ground := Go.Ground.phase }, { on := 1, ground := Go.Ground.phase }, { on := 2, ground := Go.Ground.phase }, { on := 3, ground := Go.Ground.phase }, { on := 4, ground := Go.Ground.phase }, { on := 5, ground := Go.Ground.phase }, { on := 6, ground := Go.Ground.phase }], guard := none }) rfl (fun K hK => ?_) AllReadyH.nil
          rw [if_pos (by rfl)]
          refine wp_store_row 33 (.tmp 6) (.tmp 13) rfl g5 (kv .u8 d1).toArray rfl rfl 33 _ R5_37 HCd1.out HZ1.out (kv_all _ _) ?_
          refine hK.out _ _ ⟨Row.otherRow hH.1 (by omega) _, Row.otherRow hH.2.1 (by omega) _, Below.row hH.2.2 (by omega) _⟩ (fun hHn => ?_)
          clear hK K
          try simp only [Act.put, List.setIfInBounds_toArray, List.set_cons_zero, List.set_cons_succ]
          have R5_38 := Row.setRow R5_37 d1
          have R4_38 := Row.otherRow (g := g5) R4_37 (hne) (kv .u8 d1).toArray
          clear hH
          have hH := hHn
          clear hHn
          refine wpAnyH_done (by kernel_rfl) ?_ _
          exact ⟨rfl, g4, g5, rfl, R4_38, R5_38, hne, hg4, hg5, hH.1, hH.2.1, hH.2.2⟩
      · rw [if_pos (by rfl)]
        refine wp_alloc_row 33 rfl _ _ info33 ?_
        refine hK.out _ _ ⟨Row.alloc hH.1 _, Row.alloc hH.2.1 _, hH.2.2.alloc (Nat.le_of_lt hH.1.lt) _⟩ (fun hHn => ?_)
        clear hK K
        try simp only [Act.put, List.setIfInBounds_toArray, List.set_cons_zero, List.set_cons_succ]
        have R4_39 := Row.alloc R4_29 (.cells (kv .u8 (List.replicate 68 0)).toArray 33)
        obtain ⟨g5, eg5, R5_39, hlt, hgs⟩ := new_row68 _ hH.2.1.lt
        try rw [← eg5] at hHn
        try rw [← eg5]
        have E5 := Kp.mk eg5
        clear eg5
        have hg5 : A + 1 < g5 := hlt
        have hne : g4 ≠ g5 := by have := Row.lt R4_29; have := E5.out; omega
        clear hlt hgs hH
        have hH := hHn
        clear hHn
        refine wpAnyH_ready (rs := [1]) (by kernel_rfl) (by simp) ?_
        refine AllReadyH.cons (o := { dst := some 11, op := Go.Op.call { callee := Go.Callee.value (Go.Operand.func 8), args := #[Go.Operand.tmp 10], argTypes := #[43] }, type := 33, pos := "law.go:49", after := #[{ on := 0, ground := Go.Ground.data }], guard := none }) rfl (fun K hK => ?_) AllReadyH.nil
        go_simp
        refine (digits_any x0 _ HL.out.1 HB.out.1).mono ?_
        rintro r wn40 ⟨rfl, hb⟩
        rw [HD0.out]
        have R4_40 := Row.keep R4_39 hb
        have R5_40 := Row.keep R5_39 hb
        refine hK.out _ _ ⟨hH.1.keep hb, hH.2.1.keep hb, hH.2.2.trans (hb.mono (Nat.le_of_lt hH.1.lt))⟩ (fun hHn => ?_)
        clear hK K
        try simp only [Act.put, List.setIfInBounds_toArray, List.set_cons_zero, List.set_cons_succ]
        clear hb hH
        have hH := hHn
        clear hHn
        refine wpAnyH_ready (rs := [3]) (by kernel_rfl) (by simp) ?_
        refine AllReadyH.cons (o := { dst := some 13, op := Go.Op.call { callee := Go.Callee.value (Go.Operand.func 8), args := #[Go.Operand.tmp 12], argTypes := #[43] }, type := 33, pos := "law.go:49", after := #[{ on := 2, ground := Go.Ground.data }, { on := 1, ground := Go.Ground.chain }], guard := none }) rfl (fun K hK => ?_) AllReadyH.nil
        go_simp
        refine (digits_any x1 _ HL.out.2 HB.out.2).mono ?_
        rintro r wn41 ⟨rfl, hb⟩
        rw [HD1.out]
        have R4_41 := Row.keep R4_40 hb
        have R5_41 := Row.keep R5_40 hb
        refine hK.out _ _ ⟨hH.1.keep hb, hH.2.1.keep hb, hH.2.2.trans (hb.mono (Nat.le_of_lt hH.1.lt))⟩ (fun hHn => ?_)
        clear hK K
        try simp only [Act.put, List.setIfInBounds_toArray, List.set_cons_zero, List.set_cons_succ]
        clear hb hH
        have hH := hHn
        clear hHn
        refine wpAnyH_ready (rs := [6]) (by kernel_rfl) (by simp) ?_
        refine AllReadyH.cons (o := { dst := none, op := Go.Op.store 33 (Go.Operand.tmp 5) (Go.Operand.tmp 11), type := 0, pos := "law.go:49", after := #[{ on := 4, ground := Go.Ground.data }, { on := 1, ground := Go.Ground.data }, { on := 3, ground := Go.Ground.chain }, { on := 0, ground := Go.Ground.phase }, { on := 1, ground := Go.Ground.phase }, { on := 2, ground := Go.Ground.textOnly Go.Departure.lateStores }, { on := 3, ground := Go.Ground.textOnly Go.Departure.lateStoresUnsure }, { on := 4, ground := Go.Ground.phase }, { on := 5, ground := Go.Ground.phase }], guard := none }) rfl (fun K hK => ?_) AllReadyH.nil
        rw [if_pos (by rfl)]
        refine wp_store_row 33 (.tmp 5) (.tmp 11) rfl g4 (kv .u8 d0).toArray rfl rfl 33 _ R4_41 HCd0.out HZ0.out (kv_all _ _) ?_
        refine hK.out _ _ ⟨Row.otherRow hH.1 (by omega) _, Row.otherRow hH.2.1 (by omega) _, Below.row hH.2.2 (by omega) _⟩ (fun hHn => ?_)
        clear hK K
        try simp only [Act.put, List.setIfInBounds_toArray, List.set_cons_zero, List.set_cons_succ]
        have R4_42 := Row.setRow R4_41 d0
        have R5_42 := Row.otherRow (g := g4) R5_41 (Ne.symm hne) (kv .u8 d0).toArray
        clear hH
        have hH := hHn
        clear hHn
        refine wpAnyH_ready (rs := [7]) (by kernel_rfl) (by simp) ?_
        refine AllReadyH.cons (o := { dst := none, op := Go.Op.store 33 (Go.Operand.tmp 6) (Go.Operand.tmp 13), type := 0, pos := "law.go:49", after := #[{ on := 5, ground := Go.Ground.data }, { on := 3, ground := Go.Ground.data }, { on := 6, ground := Go.Ground.chain }, { on := 0, ground := Go.Ground.phase }, { on := 1, ground := Go.Ground.phase }, { on := 2, ground := Go.Ground.phase }, { on := 3, ground := Go.Ground.phase }, { on := 4, ground := Go.Ground.phase }, { on := 5, ground := Go.Ground.phase }, { on := 6, ground := Go.Ground.phase }], guard := none }) rfl (fun K hK => ?_) AllReadyH.nil
        rw [if_pos (by rfl)]
        refine wp_store_row 33 (.tmp 6) (.tmp 13) rfl g5 (kv .u8 d1).toArray rfl rfl 33 _ R5_42 HCd1.out HZ1.out (kv_all _ _) ?_
        refine hK.out _ _ ⟨Row.otherRow hH.1 (by omega) _, Row.otherRow hH.2.1 (by omega) _, Below.row hH.2.2 (by omega) _⟩ (fun hHn => ?_)
        clear hK K
        try simp only [Act.put, List.setIfInBounds_toArray, List.set_cons_zero, List.set_cons_succ]
        have R5_43 := Row.setRow R5_42 d1
        have R4_43 := Row.otherRow (g := g5) R4_42 (hne) (kv .u8 d1).toArray
        clear hH
        have hH := hHn
        clear hHn
        refine wpAnyH_done (by kernel_rfl) ?_ _
        exact ⟨rfl, g4, g5, rfl, R4_43, R5_43, hne, hg4, hg5, hH.1, hH.2.1, hH.2.2⟩
    · rw [if_pos (by rfl)]
      refine wp_alloc_row 33 rfl _ _ info33 ?_
      refine hK.out _ _ ⟨Row.alloc hH.1 _, Row.alloc hH.2.1 _, hH.2.2.alloc (Nat.le_of_lt hH.1.lt) _⟩ (fun hHn => ?_)
      clear hK K
      try simp only [Act.put, List.setIfInBounds_toArray, List.set_cons_zero, List.set_cons_succ]
      obtain ⟨g5, eg5, R5_44, hlt, hgs⟩ := new_row68 _ hH.2.1.lt
      try rw [← eg5] at hHn
      try rw [← eg5]
      have E5 := Kp.mk eg5
      clear eg5
      have hg5 : A + 1 < g5 := hlt
      clear hlt hgs hH
      have hH := hHn
      clear hHn
      refine wpAnyH_ready (rs := [1, 4]) (by kernel_rfl) (by simp) ?_
      refine AllReadyH.cons (o := { dst := some 11, op := Go.Op.call { callee := Go.Callee.value (Go.Operand.func 8), args := #[Go.Operand.tmp 10], argTypes := #[43] }, type := 33, pos := "law.go:49", after := #[{ on := 0, ground := Go.Ground.data }], guard := none }) rfl (fun K hK => ?_) (AllReadyH.cons (o := { dst := some 5, op := Go.Op.alloc 33, type := 0, pos := "law.go:49", after := #[], guard := none }) rfl (fun K hK => ?_) AllReadyH.nil)
      · go_simp
        refine (digits_any x0 _ HL.out.1 HB.out.1).mono ?_
        rintro r wn45 ⟨rfl, hb⟩
        rw [HD0.out]
        have R5_45 := Row.keep R5_44 hb
        refine hK.out _ _ ⟨hH.1.keep hb, hH.2.1.keep hb, hH.2.2.trans (hb.mono (Nat.le_of_lt hH.1.lt))⟩ (fun hHn => ?_)
        clear hK K
        try simp only [Act.put, List.setIfInBounds_toArray, List.set_cons_zero, List.set_cons_succ]
        clear hb hH
        have hH := hHn
        clear hHn
        refine wpAnyH_ready (rs := [3, 4]) (by kernel_rfl) (by simp) ?_
        refine AllReadyH.cons (o := { dst := some 13, op := Go.Op.call { callee := Go.Callee.value (Go.Operand.func 8), args := #[Go.Operand.tmp 12], argTypes := #[43] }, type := 33, pos := "law.go:49", after := #[{ on := 2, ground := Go.Ground.data }, { on := 1, ground := Go.Ground.chain }], guard := none }) rfl (fun K hK => ?_) (AllReadyH.cons (o := { dst := some 5, op := Go.Op.alloc 33, type := 0, pos := "law.go:49", after := #[], guard := none }) rfl (fun K hK => ?_) AllReadyH.nil)
        · go_simp
          refine (digits_any x1 _ HL.out.2 HB.out.2).mono ?_
          rintro r wn46 ⟨rfl, hb⟩
          rw [HD1.out]
          have R5_46 := Row.keep R5_45 hb
          refine hK.out _ _ ⟨hH.1.keep hb, hH.2.1.keep hb, hH.2.2.trans (hb.mono (Nat.le_of_lt hH.1.lt))⟩ (fun hHn => ?_)
          clear hK K
          try simp only [Act.put, List.setIfInBounds_toArray, List.set_cons_zero, List.set_cons_succ]
          clear hb hH
          have hH := hHn
          clear hHn
          refine wpAnyH_ready (rs := [4]) (by kernel_rfl) (by simp) ?_
          refine AllReadyH.cons (o := { dst := some 5, op := Go.Op.alloc 33, type := 0, pos := "law.go:49", after := #[], guard := none }) rfl (fun K hK => ?_) AllReadyH.nil
          rw [if_pos (by rfl)]
          refine wp_alloc_row 33 rfl _ _ info33 ?_
          refine hK.out _ _ ⟨Row.alloc hH.1 _, Row.alloc hH.2.1 _, hH.2.2.alloc (Nat.le_of_lt hH.1.lt) _⟩ (fun hHn => ?_)
          clear hK K
          try simp only [Act.put, List.setIfInBounds_toArray, List.set_cons_zero, List.set_cons_succ]
          have R5_47 := Row.alloc R5_46 (.cells (kv .u8 (List.replicate 68 0)).toArray 33)
          obtain ⟨g4, eg4, R4_47, hlt, hgs⟩ := new_row68 _ hH.2.1.lt
          try rw [← eg4] at hHn
          try rw [← eg4]
          have E4 := Kp.mk eg4
          clear eg4
          have hg4 : A + 1 < g4 := hlt
          have hne : g4 ≠ g5 := by have := Row.lt R5_46; have := E4.out; omega
          clear hlt hgs hH
          have hH := hHn
          clear hHn
          refine wpAnyH_ready (rs := [6]) (by kernel_rfl) (by simp) ?_
          refine AllReadyH.cons (o := { dst := none, op := Go.Op.store 33 (Go.Operand.tmp 5) (Go.Operand.tmp 11), type := 0, pos := "law.go:49", after := #[{ on := 4, ground := Go.Ground.data }, { on := 1, ground := Go.Ground.data }, { on := 3, ground := Go.Ground.chain }, { on := 0, ground := Go.Ground.phase }, { on := 1, ground := Go.Ground.phase }, { on := 2, ground := Go.Ground.textOnly Go.Departure.lateStores }, { on := 3, ground := Go.Ground.textOnly Go.Departure.lateStoresUnsure }, { on := 4, ground := Go.Ground.phase }, { on := 5, ground := Go.Ground.phase }], guard := none }) rfl (fun K hK => ?_) AllReadyH.nil
          rw [if_pos (by rfl)]
          refine wp_store_row 33 (.tmp 5) (.tmp 11) rfl g4 (kv .u8 d0).toArray rfl rfl 33 _ R4_47 HCd0.out HZ0.out (kv_all _ _) ?_
          refine hK.out _ _ ⟨Row.otherRow hH.1 (by omega) _, Row.otherRow hH.2.1 (by omega) _, Below.row hH.2.2 (by omega) _⟩ (fun hHn => ?_)
          clear hK K
          try simp only [Act.put, List.setIfInBounds_toArray, List.set_cons_zero, List.set_cons_succ]
          have R4_48 := Row.setRow R4_47 d0
          have R5_48 := Row.otherRow (g := g4) R5_47 (Ne.symm hne) (kv .u8 d0).toArray
          clear hH
          have hH := hHn
          clear hHn
          refine wpAnyH_ready (rs := [7]) (by kernel_rfl) (by simp) ?_
          refine AllReadyH.cons (o := { dst := none, op := Go.Op.store 33 (Go.Operand.tmp 6) (Go.Operand.tmp 13), type := 0, pos := "law.go:49", after := #[{ on := 5, ground := Go.Ground.data }, { on := 3, ground := Go.Ground.data }, { on := 6, ground := Go.Ground.chain }, { on := 0, ground := Go.Ground.phase }, { on := 1, ground := Go.Ground.phase }, { on := 2, ground := Go.Ground.phase }, { on := 3, ground := Go.Ground.phase }, { on := 4, ground := Go.Ground.phase }, { on := 5, ground := Go.Ground.phase }, { on := 6, ground := Go.Ground.phase }], guard := none }) rfl (fun K hK => ?_) AllReadyH.nil
          rw [if_pos (by rfl)]
          refine wp_store_row 33 (.tmp 6) (.tmp 13) rfl g5 (kv .u8 d1).toArray rfl rfl 33 _ R5_48 HCd1.out HZ1.out (kv_all _ _) ?_
          refine hK.out _ _ ⟨Row.otherRow hH.1 (by omega) _, Row.otherRow hH.2.1 (by omega) _, Below.row hH.2.2 (by omega) _⟩ (fun hHn => ?_)
          clear hK K
          try simp only [Act.put, List.setIfInBounds_toArray, List.set_cons_zero, List.set_cons_succ]
          have R5_49 := Row.setRow R5_48 d1
          have R4_49 := Row.otherRow (g := g5) R4_48 (hne) (kv .u8 d1).toArray
          clear hH
          have hH := hHn
          clear hHn
          refine wpAnyH_done (by kernel_rfl) ?_ _
          exact ⟨rfl, g4, g5, rfl, R4_49, R5_49, hne, hg4, hg5, hH.1, hH.2.1, hH.2.2⟩
        · rw [if_pos (by rfl)]
          refine wp_alloc_row 33 rfl _ _ info33 ?_
          refine hK.out _ _ ⟨Row.alloc hH.1 _, Row.alloc hH.2.1 _, hH.2.2.alloc (Nat.le_of_lt hH.1.lt) _⟩ (fun hHn => ?_)
          clear hK K
          try simp only [Act.put, List.setIfInBounds_toArray, List.set_cons_zero, List.set_cons_succ]
          have R5_50 := Row.alloc R5_45 (.cells (kv .u8 (List.replicate 68 0)).toArray 33)
          obtain ⟨g4, eg4, R4_50, hlt, hgs⟩ := new_row68 _ hH.2.1.lt
          try rw [← eg4] at hHn
          try rw [← eg4]
          have E4 := Kp.mk eg4
          clear eg4
          have hg4 : A + 1 < g4 := hlt
          have hne : g4 ≠ g5 := by have := Row.lt R5_45; have := E4.out; omega
          clear hlt hgs hH
          have hH := hHn
          clear hHn
          refine wpAnyH_ready (rs := [3]) (by kernel_rfl) (by simp) ?_
          refine AllReadyH.cons (o := { dst := some 13, op := Go.Op.call { callee := Go.Callee.value (Go.Operand.func 8), args := #[Go.Operand.tmp 12], argTypes := #[43] }, type := 33, pos := "law.go:49", after := #[{ on := 2, ground := Go.Ground.data }, { on := 1, ground := Go.Ground.chain }], guard := none }) rfl (fun K hK => ?_) AllReadyH.nil
          go_simp
          refine (digits_any x1 _ HL.out.2 HB.out.2).mono ?_
          rintro r wn51 ⟨rfl, hb⟩
          rw [HD1.out]
          have R5_51 := Row.keep R5_50 hb
          have R4_51 := Row.keep R4_50 hb
          refine hK.out _ _ ⟨hH.1.keep hb, hH.2.1.keep hb, hH.2.2.trans (hb.mono (Nat.le_of_lt hH.1.lt))⟩ (fun hHn => ?_)
          clear hK K
          try simp only [Act.put, List.setIfInBounds_toArray, List.set_cons_zero, List.set_cons_succ]
          clear hb hH
          have hH := hHn
          clear hHn
          refine wpAnyH_ready (rs := [6]) (by kernel_rfl) (by simp) ?_
          refine AllReadyH.cons (o := { dst := none, op := Go.Op.store 33 (Go.Operand.tmp 5) (Go.Operand.tmp 11), type := 0, pos := "law.go:49", after := #[{ on := 4, ground := Go.Ground.data }, { on := 1, ground := Go.Ground.data }, { on := 3, ground := Go.Ground.chain }, { on := 0, ground := Go.Ground.phase }, { on := 1, ground := Go.Ground.phase }, { on := 2, ground := Go.Ground.textOnly Go.Departure.lateStores }, { on := 3, ground := Go.Ground.textOnly Go.Departure.lateStoresUnsure }, { on := 4, ground := Go.Ground.phase }, { on := 5, ground := Go.Ground.phase }], guard := none }) rfl (fun K hK => ?_) AllReadyH.nil
          rw [if_pos (by rfl)]
          refine wp_store_row 33 (.tmp 5) (.tmp 11) rfl g4 (kv .u8 d0).toArray rfl rfl 33 _ R4_51 HCd0.out HZ0.out (kv_all _ _) ?_
          refine hK.out _ _ ⟨Row.otherRow hH.1 (by omega) _, Row.otherRow hH.2.1 (by omega) _, Below.row hH.2.2 (by omega) _⟩ (fun hHn => ?_)
          clear hK K
          try simp only [Act.put, List.setIfInBounds_toArray, List.set_cons_zero, List.set_cons_succ]
          have R4_52 := Row.setRow R4_51 d0
          have R5_52 := Row.otherRow (g := g4) R5_51 (Ne.symm hne) (kv .u8 d0).toArray
          clear hH
          have hH := hHn
          clear hHn
          refine wpAnyH_ready (rs := [7]) (by kernel_rfl) (by simp) ?_
          refine AllReadyH.cons (o := { dst := none, op := Go.Op.store 33 (Go.Operand.tmp 6) (Go.Operand.tmp 13), type := 0, pos := "law.go:49", after := #[{ on := 5, ground := Go.Ground.data }, { on := 3, ground := Go.Ground.data }, { on := 6, ground := Go.Ground.chain }, { on := 0, ground := Go.Ground.phase }, { on := 1, ground := Go.Ground.phase }, { on := 2, ground := Go.Ground.phase }, { on := 3, ground := Go.Ground.phase }, { on := 4, ground := Go.Ground.phase }, { on := 5, ground := Go.Ground.phase }, { on := 6, ground := Go.Ground.phase }], guard := none }) rfl (fun K hK => ?_) AllReadyH.nil
          rw [if_pos (by rfl)]
          refine wp_store_row 33 (.tmp 6) (.tmp 13) rfl g5 (kv .u8 d1).toArray rfl rfl 33 _ R5_52 HCd1.out HZ1.out (kv_all _ _) ?_
          refine hK.out _ _ ⟨Row.otherRow hH.1 (by omega) _, Row.otherRow hH.2.1 (by omega) _, Below.row hH.2.2 (by omega) _⟩ (fun hHn => ?_)
          clear hK K
          try simp only [Act.put, List.setIfInBounds_toArray, List.set_cons_zero, List.set_cons_succ]
          have R5_53 := Row.setRow R5_52 d1
          have R4_53 := Row.otherRow (g := g5) R4_52 (hne) (kv .u8 d1).toArray
          clear hH
          have hH := hHn
          clear hHn
          refine wpAnyH_done (by kernel_rfl) ?_ _
          exact ⟨rfl, g4, g5, rfl, R4_53, R5_53, hne, hg4, hg5, hH.1, hH.2.1, hH.2.2⟩
      · rw [if_pos (by rfl)]
        refine wp_alloc_row 33 rfl _ _ info33 ?_
        refine hK.out _ _ ⟨Row.alloc hH.1 _, Row.alloc hH.2.1 _, hH.2.2.alloc (Nat.le_of_lt hH.1.lt) _⟩ (fun hHn => ?_)
        clear hK K
        try simp only [Act.put, List.setIfInBounds_toArray, List.set_cons_zero, List.set_cons_succ]
        have R5_54 := Row.alloc R5_44 (.cells (kv .u8 (List.replicate 68 0)).toArray 33)
        obtain ⟨g4, eg4, R4_54, hlt, hgs⟩ := new_row68 _ hH.2.1.lt
        try rw [← eg4] at hHn
        try rw [← eg4]
        have E4 := Kp.mk eg4
        clear eg4
        have hg4 : A + 1 < g4 := hlt
        have hne : g4 ≠ g5 := by have := Row.lt R5_44; have := E4.out; omega
        clear hlt hgs hH
        have hH := hHn
        clear hHn
        refine wpAnyH_ready (rs := [1]) (by kernel_rfl) (by simp) ?_
        refine AllReadyH.cons (o := { dst := some 11, op := Go.Op.call { callee := Go.Callee.value (Go.Operand.func 8), args := #[Go.Operand.tmp 10], argTypes := #[43] }, type := 33, pos := "law.go:49", after := #[{ on := 0, ground := Go.Ground.data }], guard := none }) rfl (fun K hK => ?_) AllReadyH.nil
        go_simp
        refine (digits_any x0 _ HL.out.1 HB.out.1).mono ?_
        rintro r wn55 ⟨rfl, hb⟩
        rw [HD0.out]
        have R5_55 := Row.keep R5_54 hb
        have R4_55 := Row.keep R4_54 hb
        refine hK.out _ _ ⟨hH.1.keep hb, hH.2.1.keep hb, hH.2.2.trans (hb.mono (Nat.le_of_lt hH.1.lt))⟩ (fun hHn => ?_)
        clear hK K
        try simp only [Act.put, List.setIfInBounds_toArray, List.set_cons_zero, List.set_cons_succ]
        clear hb hH
        have hH := hHn
        clear hHn
        refine wpAnyH_ready (rs := [3]) (by kernel_rfl) (by simp) ?_
        refine AllReadyH.cons (o := { dst := some 13, op := Go.Op.call { callee := Go.Callee.value (Go.Operand.func 8), args := #[Go.Operand.tmp 12], argTypes := #[43] }, type := 33, pos := "law.go:49", after := #[{ on := 2, ground := Go.Ground.data }, { on := 1, ground := Go.Ground.chain }], guard := none }) rfl (fun K hK => ?_) AllReadyH.nil
        go_simp
        refine (digits_any x1 _ HL.out.2 HB.out.2).mono ?_
        rintro r wn56 ⟨rfl, hb⟩
        rw [HD1.out]
        have R5_56 := Row.keep R5_55 hb
        have R4_56 := Row.keep R4_55 hb
        refine hK.out _ _ ⟨hH.1.keep hb, hH.2.1.keep hb, hH.2.2.trans (hb.mono (Nat.le_of_lt hH.1.lt))⟩ (fun hHn => ?_)
        clear hK K
        try simp only [Act.put, List.setIfInBounds_toArray, List.set_cons_zero, List.set_cons_succ]
        clear hb hH
        have hH := hHn
        clear hHn
        refine wpAnyH_ready (rs := [6]) (by kernel_rfl) (by simp) ?_
        refine AllReadyH.cons (o := { dst := none, op := Go.Op.store 33 (Go.Operand.tmp 5) (Go.Operand.tmp 11), type := 0, pos := "law.go:49", after := #[{ on := 4, ground := Go.Ground.data }, { on := 1, ground := Go.Ground.data }, { on := 3, ground := Go.Ground.chain }, { on := 0, ground := Go.Ground.phase }, { on := 1, ground := Go.Ground.phase }, { on := 2, ground := Go.Ground.textOnly Go.Departure.lateStores }, { on := 3, ground := Go.Ground.textOnly Go.Departure.lateStoresUnsure }, { on := 4, ground := Go.Ground.phase }, { on := 5, ground := Go.Ground.phase }], guard := none }) rfl (fun K hK => ?_) AllReadyH.nil
        rw [if_pos (by rfl)]
        refine wp_store_row 33 (.tmp 5) (.tmp 11) rfl g4 (kv .u8 d0).toArray rfl rfl 33 _ R4_56 HCd0.out HZ0.out (kv_all _ _) ?_
        refine hK.out _ _ ⟨Row.otherRow hH.1 (by omega) _, Row.otherRow hH.2.1 (by omega) _, Below.row hH.2.2 (by omega) _⟩ (fun hHn => ?_)
        clear hK K
        try simp only [Act.put, List.setIfInBounds_toArray, List.set_cons_zero, List.set_cons_succ]
        have R4_57 := Row.setRow R4_56 d0
        have R5_57 := Row.otherRow (g := g4) R5_56 (Ne.symm hne) (kv .u8 d0).toArray
        clear hH
        have hH := hHn
        clear hHn
        refine wpAnyH_ready (rs := [7]) (by kernel_rfl) (by simp) ?_
        refine AllReadyH.cons (o := { dst := none, op := Go.Op.store 33 (Go.Operand.tmp 6) (Go.Operand.tmp 13), type := 0, pos := "law.go:49", after := #[{ on := 5, ground := Go.Ground.data }, { on := 3, ground := Go.Ground.data }, { on := 6, ground := Go.Ground.chain }, { on := 0, ground := Go.Ground.phase }, { on := 1, ground := Go.Ground.phase }, { on := 2, ground := Go.Ground.phase }, { on := 3, ground := Go.Ground.phase }, { on := 4, ground := Go.Ground.phase }, { on := 5, ground := Go.Ground.phase }, { on := 6, ground := Go.Ground.phase }], guard := none }) rfl (fun K hK => ?_) AllReadyH.nil
        rw [if_pos (by rfl)]
        refine wp_store_row 33 (.tmp 6) (.tmp 13) rfl g5 (kv .u8 d1).toArray rfl rfl 33 _ R5_57 HCd1.out HZ1.out (kv_all _ _) ?_
        refine hK.out _ _ ⟨Row.otherRow hH.1 (by omega) _, Row.otherRow hH.2.1 (by omega) _, Below.row hH.2.2 (by omega) _⟩ (fun hHn => ?_)
        clear hK K
        try simp only [Act.put, List.setIfInBounds_toArray, List.set_cons_zero, List.set_cons_succ]
        have R5_58 := Row.setRow R5_57 d1
        have R4_58 := Row.otherRow (g := g5) R4_57 (hne) (kv .u8 d1).toArray
        clear hH
        have hH := hHn
        clear hHn
        refine wpAnyH_done (by kernel_rfl) ?_ _
        exact ⟨rfl, g4, g5, rfl, R4_58, R5_58, hne, hg4, hg5, hH.1, hH.2.1, hH.2.2⟩
  rintro g4 g5 w3 ⟨h1, h2, h3, h4, h5, h6, h7, h8⟩
  have F4 := Kp.mk h1
  have F5 := Kp.mk h2
  have F0 := Kp.mk h6
  have F1 := Kp.mk h7
  have FB := Kp.mk h8
  clear h1 h2 h6 h7 h8 G1 G2 G3
  simp only [Act.put, List.setIfInBounds_toArray, List.set_cons_zero, List.set_cons_succ]
  have HA0 : Kp (∀ c, c < 68 → d0.getD c 0 = digA x0 c) := ⟨fun c hc => by rw [← HD0.out]; exact digS_at x0 hc⟩
  have HA1 : Kp (∀ c, c < 68 → d1.getD c 0 = digA x1 c) := ⟨fun c hc => by rw [← HD1.out]; exact digS_at x1 hc⟩
  go_wp2_with fail
  go_loopw [7, 8, 14] (fun ls mo c wr => ∃ k : Nat, k ≤ 68 ∧ c = .int .i64 k ∧ ls = .bool (lowU x0 x1 k) ∧ mo = .bool (lowU x1 x0 k) ∧ Kp (Row wr g4 33 .u8 d0 ∧ Row wr g5 33 .u8 d1 ∧ Row wr A 22 .u8 x0 ∧ Row wr (A + 1) 22 .u8 x1 ∧ Below A w wr)) (fun _ _ c _ => 68 - (intOf c).toNat)
  case atStart => exact ⟨0, by omega, rfl, rfl, rfl, ⟨F4.out, F5.out, F0.out, F1.out, FB.out⟩⟩
  case round =>
    obtain ⟨k, hk, rfl, rfl, rfl, HR⟩ := hrel
    by_cases hlt : k < 68
    · have c0 := HR.out.1.cell (i := k) (by rw [HL0.out]; exact hlt)
      have c1 := HR.out.2.1.cell (i := k) (by rw [HL1.out]; exact hlt)
      rw [HA0.out k hlt] at c0
      rw [HA1.out k hlt] at c1
      have r0 := digA_range x0 k
      have r1 := digA_range x1 k
      have HS0 := Kp.mk (show lowU x0 x1 (k + 1) = (lowU x0 x1 k || decide (digA x0 k < digA x1 k)) from rfl)
      have HS1 := Kp.mk (show lowU x1 x0 (k + 1) = (lowU x1 x0 k || decide (digA x1 k < digA x0 k)) from rfl)
      generalize lowU x0 x1 k = b0 at *
      generalize lowU x1 x0 k = b1 at *
      generalize digA x0 k = e0 at *
      generalize digA x1 k = e1 at *
      have t0 : ¬ (3 : Int) < e0 := by omega
      have t1 : ¬ (3 : Int) < e1 := by omega
      have hlt' : (k : Int) < 68 := by omega
      go_wp2_with fail
      cases b0
      all_goals
        go_region
        go_wp2_with fail
        cases b1
        all_goals
          go_region
          go_wp2_with fail
          exact ⟨⟨k + 1, by omega, by go_num, by rw [HS0.out]; simp, by rw [HS1.out]; simp, ⟨⟨HR.out.1, HR.out.2.1, HR.out.2.2.1, HR.out.2.2.2.1, HR.out.2.2.2.2.drew.drew⟩⟩⟩, by simp [intOf]; omega⟩
    · obtain rfl : k = 68 := by omega
      have hge : ¬ ((68 : Nat) : Int) < 68 := by omega
      obtain ⟨lo, hlo⟩ : ∃ lo, lo = lowU x0 x1 68 := ⟨_, rfl⟩
      obtain ⟨mo, hmo⟩ : ∃ mo, mo = lowU x1 x0 68 := ⟨_, rfl⟩
      rw [← hlo, ← hmo]
      have HLO := Kp.mk hlo
      have HMO := Kp.mk hmo
      clear hlo hmo
      go_wp2_with fail
      refine (awake_any wr).mono ?_
      rintro r w5 ⟨rfl, hb⟩
      have K0 := Kp.mk (HR.out.2.2.1.keep hb)
      have K1 := Kp.mk (HR.out.2.2.2.1.keep hb)
      have KB : Kp (Below A w w5) := ⟨HR.out.2.2.2.2.trans (hb.mono (Nat.le_of_lt HR.out.2.2.1.lt))⟩
      have hng := neg22 x0 x1
      have hnq := neq22 HB.out.1 HB.out.2 HL.out.1 HL.out.2
      have HEQ : Kp (lo = (!decide (x0 = x1)) ∧ mo = (!decide (x0 = x1))) := by
        by_cases he : x0 = x1
        · rw [HLO.out, HMO.out, he, lowU_same]
          exact ⟨by simp, by simp⟩
        · obtain ⟨c, hc, h1⟩ := apart HL.out.1 HL.out.2 HB.out.1 HB.out.2 he
          obtain ⟨c', hc', h2⟩ := apart HL.out.2 HL.out.1 HB.out.2 HB.out.1 (Ne.symm he)
          rw [HLO.out, HMO.out, lowU_some 68 c hc h1, lowU_some 68 c' hc' h2, decide_eq_false he]
          exact ⟨rfl, rfl⟩
      clear hb HR HLO HMO
      rw [HEQ.out.1, HEQ.out.2]
      generalize (!decide (x0 = x1)) = q at hnq ⊢
      go_wp2_with (first
        | (refine wpList_load_rowG rfl 22 (.tmp 2) rfl A rfl 22 (kv .u8 x0).toArray (0, 0) _ K0.out Try.underlying22 rfl HC0.out ?_)
        | (refine wpList_load_rowG rfl 22 (.tmp 3) rfl (A + 1) rfl 22 (kv .u8 x1).toArray (0, 0) _ K1.out Try.underlying22 rfl HC1.out ?_))
      go_ret
      exact ⟨rfl, by rw [← HA.out]; exact KB.out⟩
  
end Go.Proofs.Ytpljjmdkagbjpaa
