/-
  The law RankFloors, walked.
-/
import Derived.Test.YtoembbdjpelogaaFlB
import Derived.Test.YtoembbdjpelogaaFlD
import Derived.Deep.RegionHeld3
namespace Go.Proofs.Ytoembbdjpelogaa
open Go.RowKit Go.Maps

theorem blk_grow {w w' : World} {b M : Nat} {o : Obj} (h : Blk w b o) (hg : w.grownBy w' (some M)) (hne : b ≠ M) : Blk w' b o := (hg.block b h.lt (by simpa using hne)).trans h
abbrev stepObj (d : Int) (x : K3) : Obj := .cells #[.int .i64 d, .int .u32 x.1, .int .u32 x.2.1, .int .i64 x.2.2] 56
abbrev k26 (x : K3) : Obj := .cells #[.int .u32 x.1, .int .u32 x.2.1, .int .i64 x.2.2] 26
/-- What holds of the memory, step by step: the key, the map, the floors, the document's floors. -/
structure FS (w : World) (A n : Nat) (F : Int → Option K3) (x : K3) (W : World) : Prop where
  k : Blk W A (.cells #[.int .u32 x.1, .int .u32 x.2.1, .int .i64 x.2.2] 24)
  m : MapIs W (A + 1) n F
  b : Blk W (A + 2) (floObj (A + 1))
  g : Blk W (A + 3) (.cells (fcs F).toArray 54)
  be : Below A w W
  i : InF F
theorem FS.sz {w W : World} {A n : Nat} {F : Int → Option K3} {x : K3} (h : FS w A n F x W) : A + 4 ≤ W.heap.size := h.g.lt
theorem FS.keep {w W W' : World} {A n : Nat} {F : Int → Option K3} {x : K3} (h : FS w A n F x W) (hb : Below W.heap.size W W') : FS w A n F x W' :=
  ⟨h.k.keep hb, h.m.keep hb, h.b.keep hb, h.g.keep hb, h.be.trans (hb.mono (by have := h.sz; omega)), h.i⟩
theorem FS.upto {w W W' : World} {A n : Nat} {F : Int → Option K3} {x : K3} (h : FS w A n F x W) (hb : Below (A + 4) W W') : FS w A n F x W' :=
  ⟨(hb.block _ (by omega)).trans h.k, h.m.block (hb.block _ (by omega)), (hb.block _ (by omega)).trans h.b, (hb.block _ (by omega)).trans h.g, h.be.trans (hb.mono (by omega)), h.i⟩
theorem raise_inF {F : Int → Option K3} (h : InF F) (d : Int) (x : K3) : InF (raiseF F d x) := by
  unfold raiseF
  by_cases hu : raiseU F d x = true
  · rw [if_pos hu]
    intro e he
    unfold updF at he
    by_cases hed : e = d
    · subst hed
      unfold raiseU at hu
      simp at hu
      exact hu.1.1
    · rw [if_neg hed] at he
      exact h e he
  · rw [if_neg hu]
    exact h
/-- Behind the program's Raise. -/
structure FS1 (w : World) (A n : Nat) (F F' : Int → Option K3) (x : K3) (W : World) : Prop where
  k : Blk W A (.cells #[.int .u32 x.1, .int .u32 x.2.1, .int .i64 x.2.2] 24)
  m : MapIs W (A + 1) n F'
  b : Blk W (A + 2) (floObj (A + 1))
  g : Blk W (A + 3) (.cells (fcs F).toArray 54)
  be : Below A w W
  i : InF F
theorem FS1.keep {w W W' : World} {A n : Nat} {F F' : Int → Option K3} {x : K3} (h : FS1 w A n F F' x W) (hb : Below W.heap.size W W') : FS1 w A n F F' x W' :=
  ⟨h.k.keep hb, h.m.keep hb, h.b.keep hb, h.g.keep hb, h.be.trans (hb.mono (by have := h.g.lt; omega)), h.i⟩
theorem FS.raised {w W W' : World} {A n n' : Nat} {F F' : Int → Option K3} {x : K3} (h : FS w A n F x W) (hm : MapIs W' (A + 1) n' F') (hg : W.grownBy W' (some (A + 1))) : FS1 w A n' F F' x W' :=
  ⟨(hg.block _ h.k.lt (by simp)).trans h.k, hm, (hg.block _ h.b.lt (by simp)).trans h.b, (hg.block _ h.g.lt (by simp)).trans h.g, h.be.grown hg (by have := h.sz; omega) (fun k hk => by injection hk with hk; omega), h.i⟩
theorem FS1.stored {w W : World} {A n : Nat} {F F' : Int → Option K3} {x : K3} (h : FS1 w A n F F' x W) (hi : InF F') : FS w A n F' x (W.setRow (A + 3) (fcs F').toArray) := by
  have ho : ∀ k, k ≠ A + 3 → (W.setRow (A + 3) (fcs F').toArray).heap[k]? = W.heap[k]? := fun k hk => setRow_other _ _ _ _ hk
  exact ⟨(ho _ (by omega)).trans h.k, h.m.block (ho _ (by omega)), (ho _ (by omega)).trans h.b, h.g.setRowF _, below_setRowF h.be (by omega) _, hi⟩
theorem add_plainF (b n : Nat) : (Addr.add { block := b, off := 0, spot := none } n) = ⟨b, 0 + n, none⟩ := by
  unfold Addr.add
  split
  · rename_i h; subst h; rfl
  · rfl
theorem FS1.row {w W : World} {A n g : Nat} {F F' : Int → Option K3} {x : K3} (h : FS1 w A n F F' x W) (hg : A + 4 ≤ g) (cs : Array Value) : FS1 w A n F F' x (W.setRow g cs) := by
  have ho : ∀ k, k ≠ g → (W.setRow g cs).heap[k]? = W.heap[k]? := fun k hk => setRow_other _ _ _ _ hk
  exact ⟨(ho _ (by omega)).trans h.k, h.m.block (ho _ (by omega)), (ho _ (by omega)).trans h.b, (ho _ (by omega)).trans h.g, below_setRowF h.be (by omega) _, h.i⟩
/-- A row of ints of the call's own, to be read. -/
def HoldsI (w : World) (M : Nat) (v : Value) (l : List Int) : Prop := ∃ a cap, v = .slice a l.length cap ∧ ∀ i, i < l.length → ∃ b, a = some ⟨b, 0, none⟩ ∧ b < w.heap.size ∧ w.cell? ⟨b, i, none⟩ = some (.int .i64 (l.getD i 0))
theorem HoldsI.ofRow {w : World} {base : Nat} {v : Value} {l : List Int} (h : w.ownsRow base 3 1 v l.length (iv l)) : HoldsI w 0 v l := by
  by_cases h0 : 0 < l.length
  · obtain ⟨g, cap, rfl, _⟩ : ∃ g cap, v = .slice (some ⟨g, 0, none⟩) l.length cap ∧ True := by
      rcases h.2 with ⟨_, hn⟩ | ⟨g, cap, cur, e1, _⟩
      · omega
      · exact ⟨g, cap, e1, trivial⟩
    refine ⟨_, cap, rfl, fun i hi => ⟨g, rfl, (h.lt g rfl).2, ?_⟩⟩
    have e0 := h.cells (g := g) rfl i (.int .i64 (l.getD i 0)) (by simp [iv, List.getD_eq_getElem?_getD, List.getElem?_eq_getElem hi])
    rw [add_plainF] at e0
    rw [Nat.zero_add] at e0
    exact e0
  · rcases h.2 with ⟨rfl, hn⟩ | ⟨g, cap, cur, rfl, _, _⟩
    · exact ⟨none, 0, by rw [hn], fun i hi => absurd hi (by omega)⟩
    · exact ⟨_, cap, rfl, fun i hi => absurd hi (by omega)⟩
theorem HoldsI.keep {w w' : World} {v : Value} {l : List Int} (h : HoldsI w 0 v l) (hb : Below w.heap.size w w') : HoldsI w' 0 v l := by
  obtain ⟨a, cap, e, hc⟩ := h
  refine ⟨a, cap, e, fun i hi => ?_⟩
  obtain ⟨b, e1, e2, e3⟩ := hc i hi
  exact ⟨b, e1, Nat.lt_of_lt_of_le e2 hb.size, (World.cell?_of_block (w := w) (a := ⟨b, i, none⟩) (hb.block _ e2)).trans e3⟩
theorem HoldsI.at {w : World} {M n cap i : Nat} {a : Option Addr} {l : List Int} (h : HoldsI w M (.slice a n cap) l) (hi : i < l.length) : ∃ b, a = some ⟨b, 0, none⟩ ∧ w.cell? ⟨b, i, none⟩ = some (.int .i64 (l.getD i 0)) := by
  obtain ⟨a', cap', e, hc⟩ := h
  simp only [Value.slice.injEq] at e
  obtain ⟨rfl, _, _⟩ := e
  obtain ⟨b, e1, _, e3⟩ := hc i hi
  exact ⟨b, e1, e3⟩
theorem info26sF : (Try.prog.info? 26).map (·.size) = some 3 := by kernel_rfl
/-- The destinations that have a floor, behind j rounds from -1 on. -/
def hl (F : Int → Option K3) (j : Nat) : List Int := dl F (j - 1)
theorem hl_no {F : Int → Option K3} (hF : InF F) {j : Nat} (h : (F ((j : Int) - 1)).isSome = false) : hl F (j + 1) = hl F j := by
  unfold hl
  cases j with
  | zero => rfl
  | succ i => exact dl_no (by rw [show ((i : Nat) : Int) = ((i + 1 : Nat) : Int) - 1 by omega]; exact h)
theorem hl_yes {F : Int → Option K3} (hF : InF F) {j : Nat} (h : (F ((j : Int) - 1)).isSome = true) : hl F (j + 1) = hl F j ++ [(j : Int) - 1] := by
  unfold hl
  cases j with
  | zero => exact absurd (hF _ h).1 (by omega)
  | succ i =>
    rw [show ((i + 1 : Nat) : Int) - 1 = ((i : Nat) : Int) by omega] at h ⊢
    exact dl_yes h
theorem hl_all {F : Int → Option K3} (hF : InF F) : hl F 10 = dl F 8 := dl_no (by
  cases hh : (F ((8 : Nat) : Int)).isSome with
  | false => rfl
  | true => exact absurd (hF _ hh).2 (by omega))
theorem hl_len (F : Int → Option K3) (j : Nat) : (hl F j).length ≤ j := Nat.le_trans (dl_len F _) (by omega)
set_option maxRecDepth 100000 in
set_option maxHeartbeats 16000000 in
theorem floors_walk (a : Option Addr) (len cap : Nat) (f : Nat → Int × K3) (x0 x1 x2 : Int) (w : World) (hs : IsSteps w a len f) :
    Calls Try.prog 8 #[.slice a len cap, .agg #[.int .u32 x0, .int .u32 x1, .int .i64 x2]] w fun r w' => r = .returned (.bool true) ∧ Below w.heap.size w w' := by
  obtain ⟨x, hx⟩ : ∃ x : K3, x = (x0, x1, x2) := ⟨_, rfl⟩
  obtain ⟨rfl, rfl, rfl⟩ : x.1 = x0 ∧ x.2.1 = x1 ∧ x.2.2 = x2 := by rw [hx]; exact ⟨rfl, rfl, rfl⟩
  clear hx
  obtain ⟨hl', hs⟩ := hs
  have HL := Kp.mk hl'
  unfold maxLen at hl'
  have HC := Kp.mk hs
  clear hs
  obtain ⟨i0, hi, hz0, hz1, hz2⟩ := info_parts info3'
  obtain ⟨A, hA⟩ : ∃ A, A = w.heap.size := ⟨_, rfl⟩
  have HAe := Kp.mk hA
  go_enter Try.func8, Try.ntmps8
  go_wp2_with fail
  refine (newF_any _).mono ?_
  rintro r w1 ⟨rfl, rfl⟩
  have e1 : (w.alloc (.cells #[.int .u32 x.1, .int .u32 x.2.1, .int .i64 x.2.2] 24)).heap.size = A + 1 := by simp [hA]
  have hrs : FS1 w A 0 (fun _ => none) (fun _ => none) x ((((w.alloc (.cells #[.int .u32 x.1, .int .u32 x.2.1, .int .i64 x.2.2] 24)).alloc (Obj.map #[] 0)).alloc (floObj (A + 1))).alloc (.cells (fcs fun _ => none).toArray 54)) := by
    have h2 := MapIs.made (w.alloc (.cells #[.int .u32 x.1, .int .u32 x.2.1, .int .i64 x.2.2] 24))
    rw [e1] at h2
    exact ⟨(((Blk.newAt _ hA).old _).old _).old _, (h2.keep (more (Below.refl _ _) _)).keep (more (Below.refl _ _) _), (Blk.newAt _ (by simp [hA])).old _, Blk.newAt _ (by simp [hA]), by rw [hA]; exact more (more (more (more (Below.refl _ _) _) _) _) _, fun d hd => by cases hd⟩
  have HR0 := Kp.mk hrs
  clear hrs
  rw [e1]
  clear e1
  go_wp2_with (refine wpList_store_row rfl 54 (.tmp 6) (.tmp 23) rfl (w.heap.size + 3) (fcs fun _ => none).toArray rfl rfl 54 (fcs fun _ => none).toArray (by rw [← hA]; exact HR0.out.g) info54s rfl (fcs_one _) ?_; rw [← hA]; refine wpl_world' (fun W => FS w A 0 (fun _ => none) x W) (HR0.out.stored (fun d hd => by cases hd)) ?_; rintro W5 h5; have HRS := Kp.mk h5; clear h5)
  rw [← hA]
  clear hA HR0
  go_loopw [8, 9, 10, 11, 12, 13, 14, 15, 16, 17, 18, 19, 20, 21, 26] (fun _ _ _ _ _ _ _ _ _ _ _ _ _ _ ct wr => ∃ i : Nat, ∃ F, i ≤ len ∧ ct = .int .i64 i ∧ FS w A i F x wr) (fun _ _ _ _ _ _ _ _ _ _ _ _ _ _ ct _ => len - (intOf ct).toNat)
  case atStart => exact ⟨0, fun _ => none, by omega, rfl, HRS.out⟩
  case round =>
    obtain ⟨i, F, hi', rfl, hrs⟩ := hrel
    have HSR := Kp.mk hrs
    clear hrs
    by_cases hlt : i < len
    · obtain ⟨b, off, rfl, hbA, hc⟩ := HC.out (by omega)
      obtain ⟨h0, h1, h2, h3, hd⟩ := hc i hlt
      have d0 := (HSR.out.be.cell (p := ⟨b, off + i * 4, none⟩) (by rw [HAe.out]; exact hbA)).trans h0
      have d1 := (HSR.out.be.cell (p := ⟨b, off + i * 4 + 1, none⟩) (by rw [HAe.out]; exact hbA)).trans h1
      have d2 := (HSR.out.be.cell (p := ⟨b, off + i * 4 + 2, none⟩) (by rw [HAe.out]; exact hbA)).trans h2
      have d3 := (HSR.out.be.cell (p := ⟨b, off + i * 4 + 3, none⟩) (by rw [HAe.out]; exact hbA)).trans h3
      clear hc h0 h1 h2 h3
      generalize (f i).1 = d at d0 hd
      generalize (f i).2 = y at d1 d2 d3
      go_wp2_with fail
      have HS0 := Kp.mk (HSR.out.keep (more (Below.refl _ _) (stepObj d y)))
      have HO0 : Kp (Blk (wr.alloc (stepObj d y)) wr.heap.size (stepObj d y)) := ⟨Blk.new _ _⟩
      have LO : Kp (A + 4 ≤ wr.heap.size) := ⟨HSR.out.sz⟩
      clear d0 d1 d2 d3 HSR
      generalize wr.alloc (stepObj d y) = W0 at *
      generalize wr.heap.size = O at *
      refine wp_region_held_drew (S := fun w' => Kp (Blk w' O (stepObj d y))) (by kernel_rfl) (⟨HO0.out.draw⟩) (fun hH => ?_)
      refine wpAnyH_take (i := 0) (oi := { dst := some 31, op := Go.Op.move (Go.Operand.tmp 5), type := 49, pos := "law.go:94", after := #[], guard := none }) (v := .pointer (some ⟨A + 2, 0, none⟩)) rfl (by kernel_rfl) (by kernel_rfl) (by kernel_rfl) (fun _ _ _ h => h) (Or.inl ⟨by rfl, fun w hS => by first | rfl | go_simp⟩) hH ?_
      simp only [Act.put, List.setIfInBounds_toArray, List.set_cons_zero, List.set_cons_succ]
      refine wpAnyH_take (i := 1) (oi := { dst := some 32, op := Go.Op.fieldAddr 56 (Go.Operand.tmp 8) 0, type := 0, pos := "law.go:94", after := #[], guard := none }) (v := .pointer (some ⟨O, 0, none⟩)) rfl (by kernel_rfl) (by kernel_rfl) (by kernel_rfl) (fun _ _ _ h => h) (Or.inl ⟨by rfl, fun w hS => by first | rfl | go_simp⟩) hH ?_
      simp only [Act.put, List.setIfInBounds_toArray, List.set_cons_zero, List.set_cons_succ]
      refine wpAnyH_take (i := 2) (oi := { dst := some 33, op := Go.Op.load 3 (Go.Operand.tmp 32), type := 3, pos := "law.go:94", after := #[{ on := 1, ground := Go.Ground.data }], guard := none }) (v := .int .i64 d) rfl (by kernel_rfl) (by kernel_rfl) (by kernel_rfl) (fun _ _ _ h => h) (Or.inl ⟨by rfl, fun w hS => by have q0 := hS.out.cell 0; have q1 := hS.out.cell 1; have q2 := hS.out.cell 2; have q3 := hS.out.cell 3; have lq := hS.out.lt; go_simp⟩) hH ?_
      simp only [Act.put, List.setIfInBounds_toArray, List.set_cons_zero, List.set_cons_succ]
      refine wpAnyH_take (i := 3) (oi := { dst := some 34, op := Go.Op.fieldAddr 56 (Go.Operand.tmp 8) 1, type := 0, pos := "law.go:94", after := #[], guard := none }) (v := .pointer (some ⟨O, 1, none⟩)) rfl (by kernel_rfl) (by kernel_rfl) (by kernel_rfl) (fun _ _ _ h => h) (Or.inl ⟨by rfl, fun w hS => by first | rfl | go_simp⟩) hH ?_
      simp only [Act.put, List.setIfInBounds_toArray, List.set_cons_zero, List.set_cons_succ]
      refine wpAnyH_take (i := 4) (oi := { dst := some 35, op := Go.Op.load 24 (Go.Operand.tmp 34), type := 24, pos := "law.go:94", after := #[{ on := 3, ground := Go.Ground.data }], guard := none }) (v := agg3 y) rfl (by kernel_rfl) (by kernel_rfl) (by kernel_rfl) (fun _ _ _ h => h) (Or.inl ⟨by rfl, fun w hS => by have q0 := hS.out.cell 0; have q1 := hS.out.cell 1; have q2 := hS.out.cell 2; have q3 := hS.out.cell 3; have lq := hS.out.lt; go_simp⟩) hH ?_
      simp only [Act.put, List.setIfInBounds_toArray, List.set_cons_zero, List.set_cons_succ]
      refine wpAnyH_ready (rs := [5]) (by kernel_rfl) (by simp) ?_
      refine AllReadyH.cons (o := { dst := some 36, op := Go.Op.call { callee := Go.Callee.value (Go.Operand.func 15), args := #[Go.Operand.tmp 35], argTypes := #[24] }, type := 26, pos := "law.go:94", after := #[{ on := 4, ground := Go.Ground.data }], guard := none }) rfl (fun K hK => ?_) AllReadyH.nil
      go_simp
      refine (to_any y.1 y.2.1 y.2.2 _).mono ?_
      rintro r w1 ⟨rfl, hb⟩
      have HO1 : Kp (Blk w1 O (stepObj d y)) := ⟨(HO0.out.draw).keep hb⟩
      have HS1 : Kp (FS w A i F x w1) := ⟨(HS0.out.keep (Below.refl _ _).drew).keep hb⟩
      clear hb
      refine hK.out _ _ (⟨HO1.out⟩) (fun hHn => ?_)
      clear hK K hH
      have hH := hHn
      clear hHn
      try simp only [Act.put, List.setIfInBounds_toArray, List.set_cons_zero, List.set_cons_succ]
      refine wpAnyH_ready (rs := [6]) (by kernel_rfl) (by simp) ?_
      refine AllReadyH.cons (o := { dst := some 37, op := Go.Op.call { callee := Go.Callee.value (Go.Operand.func 29), args := #[Go.Operand.tmp 31, Go.Operand.tmp 33, Go.Operand.tmp 36], argTypes := #[49, 3, 26] }, type := 57, pos := "law.go:94", after := #[{ on := 0, ground := Go.Ground.data }, { on := 2, ground := Go.Ground.data }, { on := 5, ground := Go.Ground.data }, { on := 5, ground := Go.Ground.chain }], guard := none }) rfl (fun K hK => ?_) AllReadyH.nil
      go_simp
      refine (raise_any (A + 2) (A + 1) i F d y _ HS1.out.b HS1.out.m hd (by have := HL.out; omega)).mono ?_
      rintro r w2 ⟨rfl, hm, hg⟩
      have HO2 : Kp (Blk w2 O (stepObj d y)) := ⟨blk_grow HO1.out hg (by have := LO.out; omega)⟩
      have HS2 := Kp.mk (HS1.out.raised hm hg)
      clear hm hg HS1 HO1
      refine hK.out _ _ (⟨HO2.out⟩) (fun hHn => ?_)
      clear hK K hH
      have hH := hHn
      clear hHn
      try simp only [Act.put, List.setIfInBounds_toArray, List.set_cons_zero, List.set_cons_succ]
      refine wpAnyH_take (i := 7) (oi := { dst := some 30, op := Go.Op.move (Go.Operand.tmp 37), type := 57, pos := "law.go:94", after := #[{ on := 6, ground := Go.Ground.data }], guard := none }) (v := .tuple #[.bool (raiseU F d y), .int .i64 (raiseE d y)]) rfl (by kernel_rfl) (by kernel_rfl) (by kernel_rfl) (fun _ _ _ h => h) (Or.inl ⟨by rfl, fun w hS => by first | rfl | go_simp⟩) hH ?_
      simp only [Act.put, List.setIfInBounds_toArray, List.set_cons_zero, List.set_cons_succ]
      refine wpAnyH_take (i := 8) (oi := { dst := some 38, op := Go.Op.extract (Go.Operand.tmp 30) 0, type := 4, pos := "law.go:94", after := #[{ on := 7, ground := Go.Ground.data }], guard := none }) (v := .bool (raiseU F d y)) rfl (by kernel_rfl) (by kernel_rfl) (by kernel_rfl) (fun _ _ _ h => h) (Or.inl ⟨by rfl, fun w hS => by first | rfl | go_simp⟩) hH ?_
      simp only [Act.put, List.setIfInBounds_toArray, List.set_cons_zero, List.set_cons_succ]
      refine wpAnyH_take (i := 9) (oi := { dst := some 39, op := Go.Op.extract (Go.Operand.tmp 30) 1, type := 34, pos := "law.go:94", after := #[{ on := 7, ground := Go.Ground.data }, { on := 10, ground := Go.Ground.gcOnly Go.Departure.lateStores }], guard := none }) (v := .int .i64 (raiseE d y)) rfl (by kernel_rfl) (by kernel_rfl) (by kernel_rfl) (fun _ _ _ h => h) (Or.inl ⟨by rfl, fun w hS => by first | rfl | go_simp⟩) hH ?_
      simp only [Act.put, List.setIfInBounds_toArray, List.set_cons_zero, List.set_cons_succ]
      refine wpAnyH_ready (rs := [10]) (by kernel_rfl) (by simp) ?_
      refine AllReadyH.cons (o := { dst := some 9, op := Go.Op.assign (Go.Operand.tmp 38), type := 4, pos := "law.go:94", after := #[{ on := 8, ground := Go.Ground.data }, { on := 6, ground := Go.Ground.chain }, { on := 0, ground := Go.Ground.phase }, { on := 1, ground := Go.Ground.phase }, { on := 2, ground := Go.Ground.phase }, { on := 3, ground := Go.Ground.phase }, { on := 4, ground := Go.Ground.phase }, { on := 5, ground := Go.Ground.phase }, { on := 6, ground := Go.Ground.phase }, { on := 7, ground := Go.Ground.phase }, { on := 8, ground := Go.Ground.phase }, { on := 9, ground := Go.Ground.textOnly Go.Departure.lateStores }], guard := none }) rfl (fun K hK => ?_) AllReadyH.nil
      go_simp
      refine hK.out _ _ (⟨HO2.out⟩) (fun hHn => ?_)
      clear hK K hH
      have hH := hHn
      clear hHn
      try simp only [Act.put, List.setIfInBounds_toArray, List.set_cons_zero, List.set_cons_succ]
      refine wpAnyH_ready (rs := [11]) (by kernel_rfl) (by simp) ?_
      refine AllReadyH.cons (o := { dst := some 10, op := Go.Op.assign (Go.Operand.tmp 39), type := 34, pos := "law.go:94", after := #[{ on := 9, ground := Go.Ground.data }, { on := 10, ground := Go.Ground.chain }, { on := 0, ground := Go.Ground.phase }, { on := 1, ground := Go.Ground.phase }, { on := 2, ground := Go.Ground.phase }, { on := 3, ground := Go.Ground.phase }, { on := 4, ground := Go.Ground.phase }, { on := 5, ground := Go.Ground.phase }, { on := 6, ground := Go.Ground.phase }, { on := 7, ground := Go.Ground.phase }, { on := 8, ground := Go.Ground.phase }, { on := 9, ground := Go.Ground.phase }, { on := 10, ground := Go.Ground.phase }], guard := none }) rfl (fun K hK => ?_) AllReadyH.nil
      go_simp
      refine hK.out _ _ (⟨HO2.out⟩) (fun hHn => ?_)
      clear hK K hH
      have hH := hHn
      clear hHn
      try simp only [Act.put, List.setIfInBounds_toArray, List.set_cons_zero, List.set_cons_succ]
      clear hH
      refine wpAnyH_done (by kernel_rfl) ?_ _
      obtain ⟨q0, q1, q2, q3, -⟩ := HO2.out.four
      have lq := HO2.out.lt
      have hinF := Kp.mk (raise_inF HS2.out.i d y)
      have RR : Kp (∀ w3, Calls Try.prog 30 #[.agg (fcs F).toArray, .int .i64 d, agg3 y] w3 fun r w' => r = .returned (.tuple #[.bool (raiseU F d y), .int .i64 (raiseE d y), .agg (fcs (raiseF F d y)).toArray]) ∧ Below w3.heap.size w3 w') := ⟨fun w3 => rraise_any F d y w3⟩
      generalize raiseF F d y = F' at *
      generalize raiseU F d y = U at *
      generalize raiseE d y = E at *
      have u1 : (U == U) = true := by simp
      have u2 : (U != U) = false := by simp
      have u3 : (E == E) = true := by simp
      have u4 : (E != E) = false := by simp
      go_wp2_with (refine wpList_load_row rfl 54 (.tmp 6) rfl (A + 3) rfl 54 (fcs F).toArray (0, 0) _ HS2.out.g Try.underlying54 rfl info54s ?_)
      refine (RR.out _).mono ?_
      rintro r w3 ⟨rfl, hb⟩
      have HS3 := Kp.mk (HS2.out.keep hb)
      have L3 : Kp (A + 4 ≤ w3.heap.size) := ⟨HS3.out.g.lt⟩
      clear hb HS2 HO2 q0 q1 q2 q3 lq RR
      obtain ⟨N1, hN1⟩ : ∃ N1, N1 = w3.heap.size := ⟨_, rfl⟩
      have HN1 := Kp.mk hN1
      clear hN1
      go_wp2_with (first
        | (refine wpList_store_row rfl 54 (.tmp 13) (.tmp 49) rfl w3.heap.size (fcs F').toArray rfl rfl 54 _ (Blk.newAt _ rfl) info54s rfl (fcs_one _) ?_; rw [← HN1.out]; refine wpl_world' (fun W => FS1 w A (i + 1) F F' x W ∧ Blk W N1 (.cells (fcs F').toArray 54)) ⟨(HS3.out.keep (more (Below.refl _ _) _)).row (by rw [HN1.out]; exact L3.out) _, (Blk.newAt _ HN1.out).setRowF _⟩ ?_; rintro W4 h4; have S4 := Kp.mk h4; clear h4)
        | (refine wpList_load_row rfl 54 (.tmp 13) rfl N1 rfl 54 (fcs F').toArray (0, 0) _ S4.out.2 Try.underlying54 rfl info54s ?_)
        | (refine wpList_store_row rfl 54 (.tmp 6) (.tmp 58) rfl (A + 3) (fcs F').toArray rfl rfl 54 _ S4.out.1.g info54s rfl (fcs_one _) ?_; refine wpl_world' (fun W => FS w A (i + 1) F' x W) (S4.out.1.stored hinF.out) ?_; rintro W5 h5; have S5 := Kp.mk h5; clear h5))
      go_loopw [14, 15, 16, 17, 18, 19] (fun v0 dv _ _ _ _ wr => ∃ (j : Nat) (v : Value), j ≤ 10 ∧ v = v0 ∧ dv = .int .i64 ((j : Int) - 1) ∧ Kp (wr.ownsRow (A + 4) 3 1 v (hl F' j).length (iv (hl F' j))) ∧ Kp (FS w A (i + 1) F' x wr)) (fun _ dv _ _ _ _ _ => 10 - (intOf dv + 1).toNat)
      case atStart => exact ⟨0, _, by omega, rfl, rfl, ⟨World.ownsRow_nil _ _ _ _⟩, S5⟩
      case round =>
        obtain ⟨j, v, hj10, rfl, rfl, HR, HS6⟩ := hrel
        by_cases hlt2 : j < 10
        · obtain ⟨e, he⟩ : ∃ e : Int, e = (j : Int) - 1 := ⟨_, rfl⟩
          have HEE := Kp.mk he
          have hd2 : (dkey e).wf = true := by
            have h1 : IntKind.i64.min = -9223372036854775808 := rfl
            have h2 : IntKind.i64.max = 9223372036854775807 := rfl
            simp [Lit.wf, h1, h2]
            omega
          have he1 : -1 ≤ e := by omega
          have he2 : e ≤ 8 := by omega
          rw [← he]
          clear he
          go_wp2_with fail
          refine (get_any (A + 2) (A + 1) (i + 1) F' e _ HS6.out.b HS6.out.m hd2).mono ?_
          rintro r w5 ⟨rfl, hb⟩
          rw [show (F' e).getD (0, 0, 0) = gk F' e from rfl]
          have LP : Kp (A + 4 ≤ w5.heap.size) := ⟨(HS6.out.keep hb).sz⟩
          have HS7 := Kp.mk ((HS6.out.keep hb).keep (more (Below.refl _ _) (k26 (gk F' e))))
          have HR7 := Kp.mk ((ownsRow_belowF HR.out hb).alloc (k26 (gk F' e)))
          have HP7 : Kp (Blk (w5.alloc (k26 (gk F' e))) w5.heap.size (k26 (gk F' e))) := ⟨Blk.new _ _⟩
          clear hb HR HS6
          have RG : Kp (∀ w3, Calls Try.prog 32 #[.agg (fcs F').toArray, .int .i64 e] w3 fun r w' => r = .returned (.tuple #[agg3 (gk F' e), .bool (F' e).isSome]) ∧ Below w3.heap.size w3 w') := ⟨fun w3 => rget_any F' e w3 hinF.out⟩
          obtain ⟨ok, hok⟩ : ∃ ok, ok = (F' e).isSome := ⟨_, rfl⟩
          have HOK := Kp.mk hok
          have HMY : Kp (∀ w3, FS w A (i + 1) F' x w3 → Calls Try.prog 33 #[.pointer (some ⟨A + 2, 0, none⟩), .int .i64 e, agg3 x] w3 fun r w' => r = .returned (.bool (mayF F' e x)) ∧ Below w3.heap.size w3 w') := ⟨fun w3 h3 => may_any (A + 2) (A + 1) (i + 1) F' e x w3 h3.b h3.m hd2⟩
          have HRM : Kp (∀ w3, Calls Try.prog 34 #[.agg (fcs F').toArray, .int .i64 e, agg3 x] w3 fun r w' => r = .returned (.bool (mayF F' e x)) ∧ Below w3.heap.size w3 w') := ⟨fun w3 => rmay_any F' e x w3 hinF.out⟩
          rw [← hok] at RG
          rw [← hok]
          clear hok
          generalize gk F' e = z at *
          generalize mayF F' e x = my at *
          have v1 : (ok == ok) = true := by simp
          have v2 : (ok != ok) = false := by simp
          have v3 : (my == my) = true := by simp
          have v4 : (my != my) = false := by simp
          have v5 : (z.1 == z.1) = true := by simp
          have v6 : (z.2.1 == z.2.1) = true := by simp
          have v7 : (z.2.2 == z.2.2) = true := by simp
          go_wp2_with (refine wpList_load_row rfl 54 (.tmp 6) rfl (A + 3) rfl 54 (fcs F').toArray (0, 0) _ HS7.out.g Try.underlying54 rfl info54s ?_)
          generalize w5.heap.size = P at *
          generalize w5.alloc (k26 z) = W7 at *
          refine (RG.out _).mono ?_
          rintro r w8 ⟨rfl, hb⟩
          have HS8 := Kp.mk ((HS7.out.keep hb).keep (more (Below.refl _ _) (.cells #[.int .u32 z.1, .int .u32 z.2.1, .int .i64 z.2.2] 24)))
          have HR8 := Kp.mk ((ownsRow_belowF HR7.out hb).alloc (.cells #[.int .u32 z.1, .int .u32 z.2.1, .int .i64 z.2.2] 24))
          have HP8 := Kp.mk ((HP7.out.keep hb).old (.cells #[.int .u32 z.1, .int .u32 z.2.1, .int .i64 z.2.2] 24))
          have HQ8 : Kp (Blk (w8.alloc (.cells #[.int .u32 z.1, .int .u32 z.2.1, .int .i64 z.2.2] 24)) w8.heap.size (.cells #[.int .u32 z.1, .int .u32 z.2.1, .int .i64 z.2.2] 24)) := ⟨Blk.new _ _⟩
          clear hb HS7 HR7 HP7 RG
          go_wp2_with fail
          generalize w8.heap.size = Q at *
          generalize w8.alloc (.cells #[.int .u32 z.1, .int .u32 z.2.1, .int .i64 z.2.2] 24) = W8 at *
          obtain ⟨rows, hrows⟩ : ∃ l, l = hl F' j := ⟨_, rfl⟩
          have HROWS := Kp.mk hrows
          rw [← hrows] at HR8
          clear hrows
          refine wp_region_flow (fun W => FS w A (i + 1) F' x W ∧ Blk W P (k26 z) ∧ Blk W Q (.cells #[.int .u32 z.1, .int .u32 z.2.1, .int .i64 z.2.2] 24) ∧ W.ownsRow (A + 4) 3 1 v rows.length (iv rows)) (by kernel_rfl) (by kernel_rfl) (by kernel_rfl) (fun w1 w2 h hb => ⟨h.1.keep hb, h.2.1.keep hb, h.2.2.1.keep hb, ownsRow_belowF h.2.2.2 hb⟩) ⟨HS8.out.keep (Below.refl _ _).drew, HP8.out.keep (Below.refl _ _).drew, HQ8.out.keep (Below.refl _ _).drew, ownsRow_belowF HR8.out (Below.refl _ _).drew⟩ ?_
          refine Flow.value (v := .bool ok) (by first | rfl | kernel_rfl) (fun wx hS => by go_simp; first | done | with_reducible rfl | rfl) ?_
          try simp only [Act.put, List.setIfInBounds_toArray, List.set_cons_zero, List.set_cons_succ]
          refine Flow.value (v := .bool ok) (by first | rfl | kernel_rfl) (fun wx hS => by go_simp; first | done | with_reducible rfl | rfl) ?_
          try simp only [Act.put, List.setIfInBounds_toArray, List.set_cons_zero, List.set_cons_succ]
          refine Flow.value (v := .bool false) (by first | rfl | kernel_rfl) (fun wx hS => by go_simp; first | done | with_reducible rfl | rfl) ?_
          try simp only [Act.put, List.setIfInBounds_toArray, List.set_cons_zero, List.set_cons_succ]
          refine Flow.value (v := .bool false) (by first | rfl | kernel_rfl) (fun wx hS => by go_simp; first | done | with_reducible rfl | rfl) ?_
          try simp only [Act.put, List.setIfInBounds_toArray, List.set_cons_zero, List.set_cons_succ]
          refine Flow.value (v := agg3 z) (by first | rfl | kernel_rfl) (fun wx hS => by exact exec_load_blk 26 (.tmp 16) rfl P rfl 26 #[.int .u32 z.1, .int .u32 z.2.1, .int .i64 z.2.2] (0, 0) _ hS.2.1 Try.underlying26 rfl info26sF) ?_
          try simp only [Act.put, List.setIfInBounds_toArray, List.set_cons_zero, List.set_cons_succ]
          refine Flow.call (v := agg3 z) (by first | rfl | kernel_rfl) (f := 25) (args := #[agg3 z]) (fun wx hS => by go_simp) (fun wx hS => from_any _ _ _ wx) ?_
          try simp only [Act.put, List.setIfInBounds_toArray, List.set_cons_zero, List.set_cons_succ]
          refine Flow.value (v := agg3 z) (by first | rfl | kernel_rfl) (fun wx hS => by exact exec_load_blk 24 (.tmp 18) rfl Q rfl 24 #[.int .u32 z.1, .int .u32 z.2.1, .int .i64 z.2.2] (0, 0) _ hS.2.2.1 Try.underlying24 rfl info24s) ?_
          try simp only [Act.put, List.setIfInBounds_toArray, List.set_cons_zero, List.set_cons_succ]
          refine Flow.value (v := .bool false) (by first | rfl | kernel_rfl) (fun wx hS => by go_simp; first | done | with_reducible rfl | rfl) ?_
          try simp only [Act.put, List.setIfInBounds_toArray, List.set_cons_zero, List.set_cons_succ]
          refine Flow.value (v := .bool false) (by first | rfl | kernel_rfl) (fun wx hS => by go_simp; first | done | with_reducible rfl | rfl) ?_
          try simp only [Act.put, List.setIfInBounds_toArray, List.set_cons_zero, List.set_cons_succ]
          refine Flow.value (v := .bool false) (by first | rfl | kernel_rfl) (fun wx hS => by go_simp; first | done | with_reducible rfl | rfl) ?_
          try simp only [Act.put, List.setIfInBounds_toArray, List.set_cons_zero, List.set_cons_succ]
          refine Flow.value (v := .pointer (some ⟨A + 2, 0, none⟩)) (by first | rfl | kernel_rfl) (fun wx hS => by go_simp; first | done | with_reducible rfl | rfl) ?_
          try simp only [Act.put, List.setIfInBounds_toArray, List.set_cons_zero, List.set_cons_succ]
          refine Flow.value (v := .int .i64 e) (by first | rfl | kernel_rfl) (fun wx hS => by go_simp; first | done | with_reducible rfl | rfl) ?_
          try simp only [Act.put, List.setIfInBounds_toArray, List.set_cons_zero, List.set_cons_succ]
          refine Flow.value (v := agg3 x) (by first | rfl | kernel_rfl) (fun wx hS => by exact exec_load_blk 24 (.tmp 3) rfl A rfl 24 #[.int .u32 x.1, .int .u32 x.2.1, .int .i64 x.2.2] (0, 0) _ hS.1.k Try.underlying24 rfl info24s) ?_
          try simp only [Act.put, List.setIfInBounds_toArray, List.set_cons_zero, List.set_cons_succ]
          refine Flow.call (v := agg3 x) (by first | rfl | kernel_rfl) (f := 15) (args := #[agg3 x]) (fun wx hS => by go_simp) (fun wx hS => to_any _ _ _ wx) ?_
          try simp only [Act.put, List.setIfInBounds_toArray, List.set_cons_zero, List.set_cons_succ]
          refine Flow.call (v := .bool my) (by first | rfl | kernel_rfl) (f := 33) (args := #[.pointer (some ⟨A + 2, 0, none⟩), .int .i64 e, agg3 x]) (fun wx hS => by go_simp) (fun wx hS => HMY.out wx hS.1) ?_
          try simp only [Act.put, List.setIfInBounds_toArray, List.set_cons_zero, List.set_cons_succ]
          refine Flow.value (v := .agg (fcs F').toArray) (by first | rfl | kernel_rfl) (fun wx hS => by exact exec_load_blk 54 (.tmp 6) rfl (A + 3) rfl 54 (fcs F').toArray (0, 0) _ hS.1.g Try.underlying54 rfl info54s) ?_
          try simp only [Act.put, List.setIfInBounds_toArray, List.set_cons_zero, List.set_cons_succ]
          refine Flow.value (v := .int .i64 e) (by first | rfl | kernel_rfl) (fun wx hS => by go_simp; first | done | with_reducible rfl | rfl) ?_
          try simp only [Act.put, List.setIfInBounds_toArray, List.set_cons_zero, List.set_cons_succ]
          refine Flow.value (v := agg3 x) (by first | rfl | kernel_rfl) (fun wx hS => by exact exec_load_blk 24 (.tmp 3) rfl A rfl 24 #[.int .u32 x.1, .int .u32 x.2.1, .int .i64 x.2.2] (0, 0) _ hS.1.k Try.underlying24 rfl info24s) ?_
          try simp only [Act.put, List.setIfInBounds_toArray, List.set_cons_zero, List.set_cons_succ]
          refine Flow.call (v := .bool my) (by first | rfl | kernel_rfl) (f := 34) (args := #[.agg (fcs F').toArray, .int .i64 e, agg3 x]) (fun wx hS => by go_simp) (fun wx hS => HRM.out wx) ?_
          try simp only [Act.put, List.setIfInBounds_toArray, List.set_cons_zero, List.set_cons_succ]
          refine Flow.value (v := .bool false) (by first | rfl | kernel_rfl) (fun wx hS => by go_simp; first | done | with_reducible rfl | rfl) ?_
          try simp only [Act.put, List.setIfInBounds_toArray, List.set_cons_zero, List.set_cons_succ]
          refine Flow.value (v := .bool false) (by first | rfl | kernel_rfl) (fun wx hS => by go_simp; first | done | with_reducible rfl | rfl) ?_
          try simp only [Act.put, List.setIfInBounds_toArray, List.set_cons_zero, List.set_cons_succ]
          refine Flow.done ?_
          intro w9 hS
          have HS9 := Kp.mk hS.1
          have HR9 := Kp.mk hS.2.2.2
          clear hS HS8 HR8 HP8 HQ8 HMY HRM v1 v2 v3 v4 v5 v6 v7
          cases hk : ok with
          | false =>
            have HD : Kp (hl F' (j + 1) = rows) := ⟨by rw [HROWS.out]; exact hl_no hinF.out (by rw [← HEE.out, ← HOK.out]; exact hk)⟩
            subst hk
            go_wp2_with fail
            exact ⟨⟨j + 1, _, by omega, rfl, by rw [HEE.out]; first | (congr 1; omega) | (simp; omega) | go_num, ⟨by rw [HD.out]; exact HR9.out⟩, HS9⟩, by have := HEE.out; simp [intOf]; omega⟩
          | true =>
            have HD : Kp (hl F' (j + 1) = rows ++ [e]) := ⟨by rw [HROWS.out, HEE.out]; exact hl_yes hinF.out (by rw [← HEE.out, ← HOK.out]; exact hk)⟩
            have HRL : Kp (rows.length ≤ 10) := ⟨by rw [HROWS.out]; have := hl_len F' j; omega⟩
            subst hk
            go_wp2_with (at_builtin; refine wpList_append_own _ rfl _ _ 61 rfl (A + 4) 3 i0 (.int .i64 0) 1 8 Try.underlying61 hi hz0 hz1 hz2 rfl (by decide) _ rows.length (iv rows) rfl (HR9.out.alloc _) ⟨w9.heap.size, 0, none⟩ 1 1 [.int .i64 e] rfl rfl ?c1 ?c2 ?c3 ?c4 ?c5 ?_)
            case c1 =>
              intro j u hj
              match j, hj with
              | 0, hj => simp at hj; subst hj; simp [Addr.add]
            case c2 =>
              intro u hu
              simp at hu
              subst hu
              rfl
            case c3 => have := HRL.out; unfold maxLen; omega
            case c4 => have := HRL.out; omega
            case c5 => have := HS9.out.sz; simp; omega
            · intro v' w10 hown' hgrow _
              have HO3 := Kp.mk hown'
              have HB10 : Kp (Below (A + 4) w9 w10) := ⟨below_row_grownF (((Below.refl _ _).mono HS9.out.sz).alloc HS9.out.sz _) (by have := HS9.out.sz; simp; omega) (HR9.out.alloc _) hgrow⟩
              clear hown' hgrow
              go_wp2_with fail
              exact ⟨⟨j + 1, _, by omega, rfl, by rw [HEE.out]; first | (congr 1; omega) | (simp; omega) | go_num, ⟨by have h9 := HO3.out; rw [HD.out]; simpa [iv] using h9⟩, ⟨HS9.out.upto HB10.out⟩⟩, by have := HEE.out; simp [intOf]; omega⟩
        · obtain rfl : j = 10 := by omega
          have hten : (((10 : Nat) : Int) - 1) = 9 := by omega
          rw [hten]
          have HRA : Kp (wr.ownsRow (A + 4) 3 1 v (dl F' 8).length (iv (dl F' 8))) := ⟨by have h9 := HR.out; rw [hl_all hinF.out] at h9; exact h9⟩
          clear HR
          go_wp2_with fail
          refine (dests_any (A + 2) (A + 1) (i + 1) F' _ HS6.out.b HS6.out.m).mono ?_
          rintro r w5 ⟨vd, rfl, ho, hb⟩
          have HA1 := Kp.mk ((HoldsI.ofRow HRA.out).keep hb)
          have HA2 := Kp.mk (HoldsI.ofRow ho)
          have HS7 := Kp.mk (HS6.out.keep hb)
          have HDL := Kp.mk (dl_len F' 8)
          clear ho hb HRA HS6
          generalize dl F' 8 = l at *
          obtain ⟨a1, c1, rfl, g1⟩ := HA1.out
          obtain ⟨a2, c2, rfl, g2⟩ := HA2.out
          obtain ⟨nl, hnl⟩ : ∃ nl, nl = l.length := ⟨_, rfl⟩
          have HNL := Kp.mk hnl
          rw [← hnl] at HA1 HA2 HDL ⊢
          clear hnl g1 g2
          have n8 : nl ≤ 8 := HDL.out
          go_wp2_with fail
          go_loopw [21, 110] (fun _ ct wr => ∃ j : Nat, j ≤ nl ∧ ct = .int .i64 j ∧ Kp (FS w A (i + 1) F' x wr ∧ HoldsI wr 0 (.slice a1 nl c1) l ∧ HoldsI wr 0 (.slice a2 nl c2) l)) (fun _ ct _ => nl - (intOf ct).toNat)
          case atStart => exact ⟨0, by omega, rfl, ⟨HS7.out, HA1.out, HA2.out⟩⟩
          case round =>
            obtain ⟨j, hj', rfl, HH⟩ := hrel
            by_cases hlt3 : j < nl
            · have HH2 : Kp (FS w A (i + 1) F' x wr.drew ∧ HoldsI wr.drew 0 (.slice a1 nl c1) l ∧ HoldsI wr.drew 0 (.slice a2 nl c2) l) := ⟨HH.out.1.keep (Below.refl _ _).drew, HH.out.2.1.keep (Below.refl _ _).drew, HH.out.2.2.keep (Below.refl _ _).drew⟩
              obtain ⟨b1, rfl, k1⟩ := HH.out.2.1.at (i := j) (by have := HNL.out; omega)
              obtain ⟨b2, rfl, k2⟩ := HH.out.2.2.at (i := j) (by have := HNL.out; omega)
              generalize l.getD j 0 = z at *
              have v1 : (z == z) = true := by simp
              have v2 : (z != z) = false := by simp
              go_wp2_with fail
              go_region
              all_goals go_wp2_with fail
              all_goals exact ⟨⟨j + 1, by omega, by go_num, HH2⟩, by simp [intOf]; omega⟩
            · obtain rfl : j = nl := by omega
              go_wp2_with fail
              exact ⟨⟨i + 1, F', by omega, by go_num, HH.out.1⟩, by simp [intOf]; omega⟩
    · obtain rfl : i = len := by omega
      go_wp2_with fail
      refine (right_any _ _ _ _).mono ?_
      rintro r w7 ⟨rfl, hb7⟩
      rw [right_zero]
      have E7 := Kp.mk ((HSR.out.keep hb7).be)
      go_wp2_with fail
      go_ret
      exact ⟨rfl, by rw [← HAe.out]; exact E7.out⟩
theorem rankFloors_walk (a : Option Addr) (len cap : Nat) (f : Nat → Int × K3) (x0 x1 x2 : Int) (w : World) (hs : IsSteps w a len f) (_ : (Lit.int .u32 x0).wf = true) (_ : (Lit.int .u32 x1).wf = true) (_ : (Lit.int .i64 x2).wf = true) :
    Calls Try.prog 8 #[.slice a len cap, .agg #[.int .u32 x0, .int .u32 x1, .int .i64 x2]] w fun r w' => r = .returned (.bool true) ∧ Below w.heap.size w w' := floors_walk a len cap f x0 x1 x2 w hs
end Go.Proofs.Ytoembbdjpelogaa
