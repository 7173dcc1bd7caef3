/-
  The document's Note: what may be noted.
-/
import Derived.Test.YtfnjfoconklhiaaStM
import Derived.Deep.Cut
namespace Go.Proofs.Ytfnjfoconklhiaa
open Go.RowKit

theorem Blk.sevenF {w : World} {b : Nat} {v0 v1 v2 v3 v4 v5 v6 : Value} {t : TypeId} (h : Blk w b (.cells #[v0, v1, v2, v3, v4, v5, v6] t)) :
    (w.cell? ⟨b, 0, none⟩ = some v0 ∧ w.cell? ⟨b, 1, none⟩ = some v1 ∧ w.cell? ⟨b, 2, none⟩ = some v2 ∧ w.cell? ⟨b, 3, none⟩ = some v3 ∧ w.cell? ⟨b, 4, none⟩ = some v4 ∧ w.cell? ⟨b, 5, none⟩ = some v5 ∧ w.cell? ⟨b, 6, none⟩ = some v6) ∧
      w.frozen? ⟨b, 0, none⟩ = false ∧ w.frozen? ⟨b, 1, none⟩ = false ∧ w.frozen? ⟨b, 2, none⟩ = false ∧ w.frozen? ⟨b, 3, none⟩ = false ∧ w.frozen? ⟨b, 4, none⟩ = false ∧ w.frozen? ⟨b, 5, none⟩ = false ∧ w.frozen? ⟨b, 6, none⟩ = false :=
  ⟨⟨h.cell 0, h.cell 1, h.cell 2, h.cell 3, h.cell 4, h.cell 5, h.cell 6⟩, h.frozen 0, h.frozen 1, h.frozen 2, h.frozen 3, h.frozen 4, h.frozen 5, h.frozen 6⟩
/-- The world of Note, behind its parameters. -/
structure RN (p : PS) (Z : PS) (e s m : Int) (A C R : Nat) (w w' : World) : Prop where
  a : Blk w' A p.robj
  c : Blk w' C (.cells #[.int .u32 e, .int .u32 s, .int .i64 m] 35)
  r : Blk w' R (.cells (prc Z).toArray 40)
  hb : Below w.heap.size w w'
theorem RN.keep {p Z : PS} {e s m : Int} {A C R : Nat} {w w' w2 : World} (h : RN p Z e s m A C R w w') (hb : Below w'.heap.size w' w2) : RN p Z e s m A C R w w2 := ⟨h.a.keep hb, h.c.keep hb, h.r.keep hb, h.hb.trans (hb.mono h.hb.size)⟩
theorem RN.set {p Z : PS} {e s m : Int} {A C R M : Nat} {w w' : World} (h : RN p Z e s m A C R w w') (h1 : A ≠ M) (h2 : C ≠ M) (h3 : R ≠ M) (hM : w.heap.size ≤ M) (i : Nat) (v : Value) : RN p Z e s m A C R w (w'.setCell ⟨M, i, none⟩ v) :=
  ⟨h.a.setOther (fun e => h1 e.symm) _, h.c.setOther (fun e => h2 e.symm) _, h.r.setOther (fun e => h3 e.symm) _, h.hb.setCell (p := ⟨M, i, none⟩) hM v⟩
theorem Blk.otherCells {b g : Nat} {x : Obj} (hne : g ≠ b) : ∀ (vs : List Value) (o : Nat) (w : World), Blk w b x → Blk (w.setCells g o vs) b x
  | [], _, _, h => h
  | v :: r, o, _, h => Blk.otherCells hne r (o + 1) _ (h.setOther (p := ⟨g, o, none⟩) hne v)
theorem Below.cells {B b : Nat} (hB : B ≤ b) : ∀ (vs : List Value) (o : Nat) (a w : World), Below B a w → Below B a (w.setCells b o vs)
  | [], _, _, _, h => h
  | v :: r, o, _, w, h => Below.cells hB r (o + 1) _ _ (h.setCell (p := ⟨b, o, none⟩) hB v)
theorem RN.put {p Z : PS} {e s m : Int} {A C R k : Nat} {w w' : World} (h : RN p Z e s m A C R w w') (hk : k < 8) (h1 : A ≠ C) (h2 : A ≠ R) (h3 : w.heap.size ≤ A) (x : NW) : RN (p.put k x) Z e s m A C R w (w'.setCells A (4 + k * 7) (nrc x)) :=
  ⟨by
    have := (Turn.cells (nrc x) (4 + k * 7) w' (prc p) (by rw [prc_len]; show 4 + k * 7 + 7 ≤ 60; omega) (Turn.same h.a)).blk
    rw [prc_splice p hk x] at this
    exact this, Blk.otherCells h1 _ _ _ h.c, Blk.otherCells h2 _ _ _ h.r, Below.cells h3 _ _ _ _ h.hb⟩
/-- The same, and the news that are turned. -/
structure RM (p Z : PS) (e s m : Int) (A C R M : Nat) (w : World) (n : NW) (w' : World) : Prop where
  rn : RN p Z e s m A C R w w'
  mb : Blk w' M (.cells (nrc n).toArray 37)
  ne : A ≠ M ∧ C ≠ M ∧ R ≠ M ∧ w.heap.size ≤ M
theorem RM.set {p Z : PS} {e s m : Int} {A C R M : Nat} {w w' : World} {n : NW} (h : RM p Z e s m A C R M w n w') (n' : NW) (i : Nat) (v : Value) (he : nrc n' = (nrc n).set i v) : RM p Z e s m A C R M w n' (w'.setCell ⟨M, i, none⟩ v) :=
  ⟨h.rn.set h.ne.1 h.ne.2.1 h.ne.2.2.1 h.ne.2.2.2 i v, by
    have := h.mb.set i v
    rw [List.setIfInBounds_toArray, ← he] at this
    exact this, h.ne⟩
theorem RM.keep {p Z : PS} {e s m : Int} {A C R M : Nat} {w w' w2 : World} {n : NW} (h : RM p Z e s m A C R M w n w') (hb : Below w'.heap.size w' w2) : RM p Z e s m A C R M w n w2 := ⟨h.rn.keep hb, h.mb.keep hb, h.ne⟩
theorem RM.facts {p Z : PS} {e s m : Int} {A C R M : Nat} {w w' : World} {n : NW} (h : RM p Z e s m A C R M w n w') :
    ((w'.cell? ⟨M, 0, none⟩ = some (.int .u32 n.e) ∧ w'.cell? ⟨M, 1, none⟩ = some (.int .u32 n.s) ∧ w'.cell? ⟨M, 2, none⟩ = some (.int .i64 n.m) ∧ w'.cell? ⟨M, 3, none⟩ = some (.bool n.noted) ∧ w'.cell? ⟨M, 4, none⟩ = some (.bool n.waits) ∧ w'.cell? ⟨M, 5, none⟩ = some (.bool n.urgent) ∧ w'.cell? ⟨M, 6, none⟩ = some (.int .i64 n.first)) ∧
      w'.frozen? ⟨M, 0, none⟩ = false ∧ w'.frozen? ⟨M, 1, none⟩ = false ∧ w'.frozen? ⟨M, 2, none⟩ = false ∧ w'.frozen? ⟨M, 3, none⟩ = false ∧ w'.frozen? ⟨M, 4, none⟩ = false ∧ w'.frozen? ⟨M, 5, none⟩ = false ∧ w'.frozen? ⟨M, 6, none⟩ = false) ∧
      w'.cell? ⟨C, 0, none⟩ = some (.int .u32 e) ∧ w'.cell? ⟨C, 1, none⟩ = some (.int .u32 s) ∧ w'.cell? ⟨C, 2, none⟩ = some (.int .i64 m) :=
  ⟨⟨⟨h.mb.cell 0, h.mb.cell 1, h.mb.cell 2, h.mb.cell 3, h.mb.cell 4, h.mb.cell 5, h.mb.cell 6⟩, h.mb.frozen 0, h.mb.frozen 1, h.mb.frozen 2, h.mb.frozen 3, h.mb.frozen 4, h.mb.frozen 5, h.mb.frozen 6⟩, h.rn.c.cell 0, h.rn.c.cell 1, h.rn.c.cell 2⟩
set_option maxRecDepth 100000 in
set_option maxHeartbeats 6400000 in
theorem rnote_a1 (p : PS) (now e s m : Int) (k : Nat) (w : World) (hyes : noteB now k e s m = true) (hno : (p.all k).noted = false) :
    Calls Try.prog 11 #[.agg (prc p).toArray, .int .i64 now, .int .i64 k, keyV e s m, .bool true] w (RNotePost p now k e s m true w) := by
  obtain ⟨⟨hd0, hd⟩, ht, hk⟩ : (0 ≤ (k : Int) ∧ (k : Int) < 8) ∧ (0 ≤ now ∧ now ≤ 1099511627776) ∧ krB e s m = true := by
    unfold noteB tmB at hyes
    simpa using hyes
  obtain ⟨x, hx⟩ : ∃ x, x = (p.all k).note now e s m true := ⟨_, rfl⟩
  have HXE := Kp.mk hx
  have HP : Kp (∀ r w', r = .returned (.tuple #[.int .i64 0, .agg (prc (p.put k x)).toArray]) → Below w.heap.size w w' → RNotePost p now k e s m true w r w') := ⟨fun r w' h1 h2 => by
    unfold RNotePost PS.note
    rw [if_pos hyes, if_pos hyes, Int.toNat_natCast, ← hx]
    exact ⟨h1, h2⟩⟩
  have HK8 : Kp (k < 8) := ⟨by omega⟩
  have hC := fun (w : World) => box_row (t := 40) (cs := prc p) (info40s p) w
  have HR := fun w1 => rkright_any e s m w1
  rw [hk] at HR
  obtain ⟨A, hA⟩ : ∃ A, A = w.heap.size := ⟨_, rfl⟩
  obtain ⟨C, hC'⟩ : ∃ C, C = A + 1 := ⟨_, rfl⟩
  obtain ⟨R, hR'⟩ : ∃ R, R = C + 1 := ⟨_, rfl⟩
  have HAR : Kp (A ≠ R) := ⟨by omega⟩
  have HLR : Kp (w.heap.size ≤ R) := ⟨by omega⟩
  obtain ⟨Z, hZ⟩ : ∃ Z, Z = ps00 := ⟨_, rfl⟩
  obtain ⟨W, hW⟩ : ∃ W, W = (((w.alloc (.cells (prc p).toArray 40)).alloc (.cells #[.int .u32 e, .int .u32 s, .int .i64 m] 35)).alloc (.cells (prc Z).toArray 40)) := ⟨_, rfl⟩
  have HW : Kp (RN p Z e s m A C R w W) := ⟨by
    rw [hW]
    exact ⟨((Blk.newAt _ hA).old _).old _, (Blk.newAt _ (by rw [hC', hA]; simp)).old _, Blk.newAt _ (by rw [hR', hC', hA]; simp), more (more (more (Below.refl _ _) _) _) _⟩⟩
  have HINF : Kp ((Try.prog.info? 40).map (fun i => (i.zero, i.size)) = some (some (.agg (prc Z).toArray), 60)) := ⟨by rw [hZ]; exact info40z⟩
  have HWE := Kp.mk hW
  have HE := Kp.mk (And.intro hA (And.intro hC' hR'))
  clear hyes hZ hW hA hC' hR' hx hk
  obtain ⟨n, hn⟩ : ∃ n, n = p.all k := ⟨_, rfl⟩
  rw [← hn] at HXE
  have HNE := Kp.mk hn
  rw [← hn] at hno
  have HNO := Kp.mk hno
  have HXC : Kp (x = ⟨true, e, s, m, now, true, true⟩) := ⟨by rw [HXE.out]; unfold NW.note; rw [if_pos (.inl hno)]; simp⟩
  clear hn hno HXE
  go_enter Try.func11, Try.ntmps11
  go_wp2_with (first
    | (refine wpList_box_eq rfl 40 (.tmp 0) rfl _ rfl _ _ (hC _) ?_)
    | (refine wpList_alloc_row rfl 40 rfl (prc Z).toArray 60 HINF.out ?_; refine wpl_world (· = W) (by show _ = W; rw [HWE.out]) ?_; intro W1 hW1; have hW2 : W1 = W := hW1; subst hW2; obtain ⟨k0, k1, k2, -⟩ := HW.out.c.three; rw [HE.out.2.1, HE.out.1] at k0 k1 k2))
  rw [← HE.out.1, ← HE.out.2.1, ← HE.out.2.2]
  refine (HR _).mono ?_
  rintro r w1 ⟨rfl, hb⟩
  have H1 := Kp.mk (HW.out.keep hb)
  clear hb HW k0 k1 k2 HR hC HINF HWE
  have HRA : Kp (w1.rangeAt A (4 + k * 7) (nrc n)) := ⟨by rw [HNE.out]; exact rnw_range H1.out.a HK8.out⟩
  obtain ⟨M, hM⟩ : ∃ M, M = w1.heap.size := ⟨_, rfl⟩
  have HM : Kp (A ≠ M ∧ C ≠ M ∧ R ≠ M ∧ w.heap.size ≤ M) := ⟨Nat.ne_of_lt (by rw [hM]; exact H1.out.a.lt), Nat.ne_of_lt (by rw [hM]; exact H1.out.c.lt), Nat.ne_of_lt (by rw [hM]; exact H1.out.r.lt), by rw [hM]; exact H1.out.hb.size⟩
  have HME := Kp.mk hM
  clear hM
  go_upto_region 4 with (first
    | (refine wpList_load_mid rfl 37 (.tmp 35) rfl A (4 + k * 7) rfl (nrc n) _ HRA.out Try.underlying37 rfl (by kernel_rfl) ?_)
    | (refine wpList_store_row rfl 37 (.tmp 12) (.tmp 36) rfl w1.heap.size (nrc n).toArray rfl rfl 37 _ (Blk.newAt _ rfl) (info37s n) rfl (all_oneCell_toArray (nrc_one n)) ?_
       rw [World.setRow_alloc_new]
       have H2 : Kp (RM p Z e s m A C R M w n (w1.alloc (.cells (nrc n).toArray 37))) := ⟨H1.out.keep (more (Below.refl _ _) _), Blk.newAt _ HME.out, HM.out⟩
       rw [← HME.out]
       refine wpl_world (RM p Z e s m A C R M w n) H2.out ?_
       clear H2
       intro W2 hW2
       have H2 := Kp.mk hW2
       clear hW2))
  obtain ⟨⟨⟨m0, m1, m2, m3, m4, m5, m6⟩, g0, g1, g2, g3, g4, g5, g6⟩, k0, k1, k2⟩ := H2.out.facts
  rw [HNO.out] at m3
  go_upto_region 6 with fail
  have H4 := Kp.mk (H2.out.set ⟨n.noted, n.e, n.s, n.m, now, n.waits, n.urgent⟩ 6 (.int .i64 now) rfl)
  clear H2
  clear m0 m1 m2 m3 m4 m5 m6 g0 g1 g2 g3 g4 g5 g6 k0 k1 k2
  revert H4
  generalize World.setCell _ _ _ = W4
  intro H4
  obtain ⟨⟨⟨m0, m1, m2, m3, m4, m5, m6⟩, g0, g1, g2, g3, g4, g5, g6⟩, k0, k1, k2⟩ := H4.out.facts
  go_upto_region 7 with fail
  have H5 := Kp.mk (H4.out.set ⟨true, n.e, n.s, n.m, now, n.waits, n.urgent⟩ 3 (.bool true) rfl)
  clear H4
  clear m0 m1 m2 m3 m4 m5 m6 g0 g1 g2 g3 g4 g5 g6 k0 k1 k2
  revert H5
  generalize World.setCell _ _ _ = W5
  intro H5
  obtain ⟨⟨⟨m0, m1, m2, m3, m4, m5, m6⟩, g0, g1, g2, g3, g4, g5, g6⟩, k0, k1, k2⟩ := H5.out.facts
  go_upto_region 8 with fail
  have H6 := Kp.mk (((H5.out.set ⟨true, e, n.s, n.m, now, n.waits, n.urgent⟩ 0 (.int .u32 e) rfl).set ⟨true, e, s, n.m, now, n.waits, n.urgent⟩ 1 (.int .u32 s) rfl).set ⟨true, e, s, m, now, n.waits, n.urgent⟩ 2 (.int .i64 m) rfl)
  clear H5
  clear m0 m1 m2 m3 m4 m5 m6 g0 g1 g2 g3 g4 g5 g6 k0 k1 k2
  revert H6
  generalize World.setCell _ _ _ = W6
  intro H6
  obtain ⟨⟨⟨m0, m1, m2, m3, m4, m5, m6⟩, g0, g1, g2, g3, g4, g5, g6⟩, k0, k1, k2⟩ := H6.out.facts
  go_upto_region 9 with fail
  have H7 := Kp.mk (H6.out.set ⟨true, e, s, m, now, true, n.urgent⟩ 4 (.bool true) rfl)
  clear H6
  clear m0 m1 m2 m3 m4 m5 m6 g0 g1 g2 g3 g4 g5 g6 k0 k1 k2
  revert H7
  generalize World.setCell _ _ _ = W7
  intro H7
  obtain ⟨⟨⟨m0, m1, m2, m3, m4, m5, m6⟩, g0, g1, g2, g3, g4, g5, g6⟩, k0, k1, k2⟩ := H7.out.facts
  go_upto_region 11 with fail
  have H8 := Kp.mk (H7.out.set ⟨true, e, s, m, now, true, true⟩ 5 (.bool true) rfl)
  clear H7
  clear m0 m1 m2 m3 m4 m5 m6 g0 g1 g2 g3 g4 g5 g6 k0 k1 k2
  revert H8
  generalize World.setCell _ _ _ = W8
  intro H8
  obtain ⟨⟨⟨m0, m1, m2, m3, m4, m5, m6⟩, g0, g1, g2, g3, g4, g5, g6⟩, k0, k1, k2⟩ := H8.out.facts
  have HXM : Kp (RM p Z e s m A C R M w x W8) := ⟨by rw [HXC.out]; exact H8.out⟩
  clear H8
  clear m0 m1 m2 m3 m4 m5 m6 g0 g1 g2 g3 g4 g5 g6 k0 k1 k2
  go_wp2_with (first
    | (refine wpList_load_row rfl 37 (.tmp 12) rfl M rfl 37 (nrc x).toArray (0, 0) _ HXM.out.mb Try.underlying37 rfl (info37s x) ?_)
    | (refine wpList_store_mid rfl 37 (.tmp 57) (.tmp 55) rfl A (4 + k * 7) (nrc x).toArray rfl rfl (Blk.there HXM.out.rn.a (by rw [prc_len]; have := HK8.out; show 4 + k * 7 + 7 ≤ 60; omega)) (info37s x) (all_oneCell_toArray (nrc_one x)) ?_
       refine wpl_world (RN (p.put k x) Z e s m A C R w) (HXM.out.rn.put HK8.out (by have := HE.out; omega) HAR.out (by have := HE.out; omega) x) ?_
       intro W9 hW9
       have HRG : Kp (Blk W9 A (p.put k x).robj ∧ Blk W9 R (.cells (prc Z).toArray 40) ∧ Below w.heap.size w W9) := ⟨hW9.a, hW9.r, hW9.hb⟩
       clear hW9))
  refine wp_region_held_drew (S := fun w' => Blk w' A ((p.put k x)).robj ∧ ∃ qz : PS, Blk w' R (.cells (prc qz).toArray 40)) (by kernel_rfl) (⟨HRG.out.1.draw, _, HRG.out.2.1.draw⟩) (fun hH => ?_)
  refine wpAnyH_take (i := 0) (oi := { dst := some 58, op := Go.Op.load 40 (Go.Operand.tmp 5), type := 40, pos := "ref.go:55", after := #[{ on := 1, ground := Go.Ground.gcOnly Go.Departure.lateStores }], guard := none }) (v := .agg (prc (p.put k x)).toArray) rfl (by kernel_rfl) (by kernel_rfl) (by kernel_rfl) (fun _ _ _ h => h) (Or.inl ⟨by rfl, fun w hS => exec_load_mid (cs := prc (p.put k x)) rfl rfl (hS.1.range (o := 0) rfl) Try.underlying40 rfl (by kernel_rfl)⟩) hH ?_
  simp only [Act.put, List.setIfInBounds_toArray, List.set_cons_zero, List.set_cons_succ]
  refine wpAnyH_take (i := 1) (oi := { dst := some 10, op := Go.Op.assign (Go.Operand.const (Go.Value.int Go.IntKind.i64 0)), type := 3, pos := "ref.go:55", after := #[{ on := 0, ground := Go.Ground.textOnly Go.Departure.lateStores }], guard := none }) (v := .int .i64 0) rfl (by kernel_rfl) (by kernel_rfl) (by kernel_rfl) (fun _ _ _ h => h) (Or.inl ⟨by rfl, fun w hS => by go_simp⟩) hH ?_
  simp only [Act.put, List.setIfInBounds_toArray, List.set_cons_zero, List.set_cons_succ]
  refine wpAnyH_ready (rs := [2]) (by kernel_rfl) (by simp) ?_
  refine AllReadyH.cons (o := { dst := none, op := Go.Op.store 40 (Go.Operand.tmp 11) (Go.Operand.tmp 58), type := 0, pos := "ref.go:55", after := #[{ on := 0, ground := Go.Ground.data }, { on := 1, ground := Go.Ground.chain }, { on := 0, ground := Go.Ground.phase }, { on := 1, ground := Go.Ground.phase }], guard := none }) rfl (fun K hK => ?_) AllReadyH.nil
  obtain ⟨hHA, qz, hHR⟩ := hH
  refine wp_store_row 40 (.tmp 11) (.tmp 58) rfl R (prc (p.put k x)).toArray rfl rfl 40 _ hHR (info40s _) rfl (all_oneCell_toArray (prc_one _)) ?_
  have hH := hHA
  have HFI : Kp (Blk ((W9.drew).setRow R (prc (p.put k x)).toArray) R (.cells (prc (p.put k x)).toArray 40) ∧ Below w.heap.size w ((W9.drew).setRow R (prc (p.put k x)).toArray)) := ⟨Blk.setRow hHR _, Below.row (Below.drew HRG.out.2.2) HLR.out _⟩
  refine hK.out _ _ (⟨(setRow_other _ _ _ _ (fun e => HAR.out e)).trans hHA, _, HFI.out.1⟩) (fun hHn => ?_)
  clear hK K hH
  have hH := hHn
  clear hHn
  try simp only [Act.put, List.setIfInBounds_toArray, List.set_cons_zero, List.set_cons_succ]
  clear hH
  refine wpAnyH_done (by kernel_rfl) ?_ _
  clear HRG
  revert HFI
  generalize World.setRow _ _ _ = w5
  intro HFI
  go_wp2_with fail
  exact bodyPost_ret (v := .tuple #[.int .i64 0, .agg (prc (p.put k x)).toArray]) (ret11 rfl rfl HFI.out.1) rfl (HP.out _ _ rfl HFI.out.2)
set_option maxRecDepth 100000 in
set_option maxHeartbeats 6400000 in
theorem rnote_a0 (p : PS) (now e s m : Int) (k : Nat) (w : World) (hyes : noteB now k e s m = true) (hno : (p.all k).noted = false) :
    Calls Try.prog 11 #[.agg (prc p).toArray, .int .i64 now, .int .i64 k, keyV e s m, .bool false] w (RNotePost p now k e s m false w) := by
  obtain ⟨⟨hd0, hd⟩, ht, hk⟩ : (0 ≤ (k : Int) ∧ (k : Int) < 8) ∧ (0 ≤ now ∧ now ≤ 1099511627776) ∧ krB e s m = true := by
    unfold noteB tmB at hyes
    simpa using hyes
  obtain ⟨x, hx⟩ : ∃ x, x = (p.all k).note now e s m false := ⟨_, rfl⟩
  have HXE := Kp.mk hx
  have HP : Kp (∀ r w', r = .returned (.tuple #[.int .i64 0, .agg (prc (p.put k x)).toArray]) → Below w.heap.size w w' → RNotePost p now k e s m false w r w') := ⟨fun r w' h1 h2 => by
    unfold RNotePost PS.note
    rw [if_pos hyes, if_pos hyes, Int.toNat_natCast, ← hx]
    exact ⟨h1, h2⟩⟩
  have HK8 : Kp (k < 8) := ⟨by omega⟩
  have hC := fun (w : World) => box_row (t := 40) (cs := prc p) (info40s p) w
  have HR := fun w1 => rkright_any e s m w1
  rw [hk] at HR
  obtain ⟨A, hA⟩ : ∃ A, A = w.heap.size := ⟨_, rfl⟩
  obtain ⟨C, hC'⟩ : ∃ C, C = A + 1 := ⟨_, rfl⟩
  obtain ⟨R, hR'⟩ : ∃ R, R = C + 1 := ⟨_, rfl⟩
  have HAR : Kp (A ≠ R) := ⟨by omega⟩
  have HLR : Kp (w.heap.size ≤ R) := ⟨by omega⟩
  obtain ⟨Z, hZ⟩ : ∃ Z, Z = ps00 := ⟨_, rfl⟩
  obtain ⟨W, hW⟩ : ∃ W, W = (((w.alloc (.cells (prc p).toArray 40)).alloc (.cells #[.int .u32 e, .int .u32 s, .int .i64 m] 35)).alloc (.cells (prc Z).toArray 40)) := ⟨_, rfl⟩
  have HW : Kp (RN p Z e s m A C R w W) := ⟨by
    rw [hW]
    exact ⟨((Blk.newAt _ hA).old _).old _, (Blk.newAt _ (by rw [hC', hA]; simp)).old _, Blk.newAt _ (by rw [hR', hC', hA]; simp), more (more (more (Below.refl _ _) _) _) _⟩⟩
  have HINF : Kp ((Try.prog.info? 40).map (fun i => (i.zero, i.size)) = some (some (.agg (prc Z).toArray), 60)) := ⟨by rw [hZ]; exact info40z⟩
  have HWE := Kp.mk hW
  have HE := Kp.mk (And.intro hA (And.intro hC' hR'))
  clear hyes hZ hW hA hC' hR' hx hk
  obtain ⟨n, hn⟩ : ∃ n, n = p.all k := ⟨_, rfl⟩
  rw [← hn] at HXE
  have HNE := Kp.mk hn
  rw [← hn] at hno
  have HNO := Kp.mk hno
  have HXC : Kp (x = ⟨true, e, s, m, now, true, n.urgent⟩) := ⟨by rw [HXE.out]; unfold NW.note; rw [if_pos (.inl hno)]; simp⟩
  clear hn hno HXE
  go_enter Try.func11, Try.ntmps11
  go_wp2_with (first
    | (refine wpList_box_eq rfl 40 (.tmp 0) rfl _ rfl _ _ (hC _) ?_)
    | (refine wpList_alloc_row rfl 40 rfl (prc Z).toArray 60 HINF.out ?_; refine wpl_world (· = W) (by show _ = W; rw [HWE.out]) ?_; intro W1 hW1; have hW2 : W1 = W := hW1; subst hW2; obtain ⟨k0, k1, k2, -⟩ := HW.out.c.three; rw [HE.out.2.1, HE.out.1] at k0 k1 k2))
  rw [← HE.out.1, ← HE.out.2.1, ← HE.out.2.2]
  refine (HR _).mono ?_
  rintro r w1 ⟨rfl, hb⟩
  have H1 := Kp.mk (HW.out.keep hb)
  clear hb HW k0 k1 k2 HR hC HINF HWE
  have HRA : Kp (w1.rangeAt A (4 + k * 7) (nrc n)) := ⟨by rw [HNE.out]; exact rnw_range H1.out.a HK8.out⟩
  obtain ⟨M, hM⟩ : ∃ M, M = w1.heap.size := ⟨_, rfl⟩
  have HM : Kp (A ≠ M ∧ C ≠ M ∧ R ≠ M ∧ w.heap.size ≤ M) := ⟨Nat.ne_of_lt (by rw [hM]; exact H1.out.a.lt), Nat.ne_of_lt (by rw [hM]; exact H1.out.c.lt), Nat.ne_of_lt (by rw [hM]; exact H1.out.r.lt), by rw [hM]; exact H1.out.hb.size⟩
  have HME := Kp.mk hM
  clear hM
  go_upto_region 4 with (first
    | (refine wpList_load_mid rfl 37 (.tmp 35) rfl A (4 + k * 7) rfl (nrc n) _ HRA.out Try.underlying37 rfl (by kernel_rfl) ?_)
    | (refine wpList_store_row rfl 37 (.tmp 12) (.tmp 36) rfl w1.heap.size (nrc n).toArray rfl rfl 37 _ (Blk.newAt _ rfl) (info37s n) rfl (all_oneCell_toArray (nrc_one n)) ?_
       rw [World.setRow_alloc_new]
       have H2 : Kp (RM p Z e s m A C R M w n (w1.alloc (.cells (nrc n).toArray 37))) := ⟨H1.out.keep (more (Below.refl _ _) _), Blk.newAt _ HME.out, HM.out⟩
       rw [← HME.out]
       refine wpl_world (RM p Z e s m A C R M w n) H2.out ?_
       clear H2
       intro W2 hW2
       have H2 := Kp.mk hW2
       clear hW2))
  obtain ⟨⟨⟨m0, m1, m2, m3, m4, m5, m6⟩, g0, g1, g2, g3, g4, g5, g6⟩, k0, k1, k2⟩ := H2.out.facts
  rw [HNO.out] at m3
  go_upto_region 6 with fail
  have H4 := Kp.mk (H2.out.set ⟨n.noted, n.e, n.s, n.m, now, n.waits, n.urgent⟩ 6 (.int .i64 now) rfl)
  clear H2
  clear m0 m1 m2 m3 m4 m5 m6 g0 g1 g2 g3 g4 g5 g6 k0 k1 k2
  revert H4
  generalize World.setCell _ _ _ = W4
  intro H4
  obtain ⟨⟨⟨m0, m1, m2, m3, m4, m5, m6⟩, g0, g1, g2, g3, g4, g5, g6⟩, k0, k1, k2⟩ := H4.out.facts
  go_upto_region 7 with fail
  have H5 := Kp.mk (H4.out.set ⟨true, n.e, n.s, n.m, now, n.waits, n.urgent⟩ 3 (.bool true) rfl)
  clear H4
  clear m0 m1 m2 m3 m4 m5 m6 g0 g1 g2 g3 g4 g5 g6 k0 k1 k2
  revert H5
  generalize World.setCell _ _ _ = W5
  intro H5
  obtain ⟨⟨⟨m0, m1, m2, m3, m4, m5, m6⟩, g0, g1, g2, g3, g4, g5, g6⟩, k0, k1, k2⟩ := H5.out.facts
  go_upto_region 8 with fail
  have H6 := Kp.mk (((H5.out.set ⟨true, e, n.s, n.m, now, n.waits, n.urgent⟩ 0 (.int .u32 e) rfl).set ⟨true, e, s, n.m, now, n.waits, n.urgent⟩ 1 (.int .u32 s) rfl).set ⟨true, e, s, m, now, n.waits, n.urgent⟩ 2 (.int .i64 m) rfl)
  clear H5
  clear m0 m1 m2 m3 m4 m5 m6 g0 g1 g2 g3 g4 g5 g6 k0 k1 k2
  revert H6
  generalize World.setCell _ _ _ = W6
  intro H6
  obtain ⟨⟨⟨m0, m1, m2, m3, m4, m5, m6⟩, g0, g1, g2, g3, g4, g5, g6⟩, k0, k1, k2⟩ := H6.out.facts
  go_upto_region 9 with fail
  have H7 := Kp.mk (H6.out.set ⟨true, e, s, m, now, true, n.urgent⟩ 4 (.bool true) rfl)
  clear H6
  clear m0 m1 m2 m3 m4 m5 m6 g0 g1 g2 g3 g4 g5 g6 k0 k1 k2
  revert H7
  generalize World.setCell _ _ _ = W7
  intro H7
  obtain ⟨⟨⟨m0, m1, m2, m3, m4, m5, m6⟩, g0, g1, g2, g3, g4, g5, g6⟩, k0, k1, k2⟩ := H7.out.facts
  have HXM : Kp (RM p Z e s m A C R M w x W7) := ⟨by rw [HXC.out]; exact H7.out⟩
  clear H7
  clear m0 m1 m2 m3 m4 m5 m6 g0 g1 g2 g3 g4 g5 g6 k0 k1 k2
  go_wp2_with (first
    | (refine wpList_load_row rfl 37 (.tmp 12) rfl M rfl 37 (nrc x).toArray (0, 0) _ HXM.out.mb Try.underlying37 rfl (info37s x) ?_)
    | (refine wpList_store_mid rfl 37 (.tmp 57) (.tmp 55) rfl A (4 + k * 7) (nrc x).toArray rfl rfl (Blk.there HXM.out.rn.a (by rw [prc_len]; have := HK8.out; show 4 + k * 7 + 7 ≤ 60; omega)) (info37s x) (all_oneCell_toArray (nrc_one x)) ?_
       refine wpl_world (RN (p.put k x) Z e s m A C R w) (HXM.out.rn.put HK8.out (by have := HE.out; omega) HAR.out (by have := HE.out; omega) x) ?_
       intro W9 hW9
       have HRG : Kp (Blk W9 A (p.put k x).robj ∧ Blk W9 R (.cells (prc Z).toArray 40) ∧ Below w.heap.size w W9) := ⟨hW9.a, hW9.r, hW9.hb⟩
       clear hW9))
  refine wp_region_held_drew (S := fun w' => Blk w' A ((p.put k x)).robj ∧ ∃ qz : PS, Blk w' R (.cells (prc qz).toArray 40)) (by kernel_rfl) (⟨HRG.out.1.draw, _, HRG.out.2.1.draw⟩) (fun hH => ?_)
  refine wpAnyH_take (i := 0) (oi := { dst := some 58, op := Go.Op.load 40 (Go.Operand.tmp 5), type := 40, pos := "ref.go:55", after := #[{ on := 1, ground := Go.Ground.gcOnly Go.Departure.lateStores }], guard := none }) (v := .agg (prc (p.put k x)).toArray) rfl (by kernel_rfl) (by kernel_rfl) (by kernel_rfl) (fun _ _ _ h => h) (Or.inl ⟨by rfl, fun w hS => exec_load_mid (cs := prc (p.put k x)) rfl rfl (hS.1.range (o := 0) rfl) Try.underlying40 rfl (by kernel_rfl)⟩) hH ?_
  simp only [Act.put, List.setIfInBounds_toArray, List.set_cons_zero, List.set_cons_succ]
  refine wpAnyH_take (i := 1) (oi := { dst := some 10, op := Go.Op.assign (Go.Operand.const (Go.Value.int Go.IntKind.i64 0)), type := 3, pos := "ref.go:55", after := #[{ on := 0, ground := Go.Ground.textOnly Go.Departure.lateStores }], guard := none }) (v := .int .i64 0) rfl (by kernel_rfl) (by kernel_rfl) (by kernel_rfl) (fun _ _ _ h => h) (Or.inl ⟨by rfl, fun w hS => by go_simp⟩) hH ?_
  simp only [Act.put, List.setIfInBounds_toArray, List.set_cons_zero, List.set_cons_succ]
  refine wpAnyH_ready (rs := [2]) (by kernel_rfl) (by simp) ?_
  refine AllReadyH.cons (o := { dst := none, op := Go.Op.store 40 (Go.Operand.tmp 11) (Go.Operand.tmp 58), type := 0, pos := "ref.go:55", after := #[{ on := 0, ground := Go.Ground.data }, { on := 1, ground := Go.Ground.chain }, { on := 0, ground := Go.Ground.phase }, { on := 1, ground := Go.Ground.phase }], guard := none }) rfl (fun K hK => ?_) AllReadyH.nil
  obtain ⟨hHA, qz, hHR⟩ := hH
  refine wp_store_row 40 (.tmp 11) (.tmp 58) rfl R (prc (p.put k x)).toArray rfl rfl 40 _ hHR (info40s _) rfl (all_oneCell_toArray (prc_one _)) ?_
  have hH := hHA
  have HFI : Kp (Blk ((W9.drew).setRow R (prc (p.put k x)).toArray) R (.cells (prc (p.put k x)).toArray 40) ∧ Below w.heap.size w ((W9.drew).setRow R (prc (p.put k x)).toArray)) := ⟨Blk.setRow hHR _, Below.row (Below.drew HRG.out.2.2) HLR.out _⟩
  refine hK.out _ _ (⟨(setRow_other _ _ _ _ (fun e => HAR.out e)).trans hHA, _, HFI.out.1⟩) (fun hHn => ?_)
  clear hK K hH
  have hH := hHn
  clear hHn
  try simp only [Act.put, List.setIfInBounds_toArray, List.set_cons_zero, List.set_cons_succ]
  clear hH
  refine wpAnyH_done (by kernel_rfl) ?_ _
  clear HRG
  revert HFI
  generalize World.setRow _ _ _ = w5
  intro HFI
  go_wp2_with fail
  exact bodyPost_ret (v := .tuple #[.int .i64 0, .agg (prc (p.put k x)).toArray]) (ret11 rfl rfl HFI.out.1) rfl (HP.out _ _ rfl HFI.out.2)
set_option maxRecDepth 100000 in
set_option maxHeartbeats 6400000 in
theorem rnote_b1 (p : PS) (now e s m : Int) (k : Nat) (w : World) (hyes : noteB now k e s m = true) (hno : (p.all k).noted = true) (hne : nwB e s (p.all k).e (p.all k).s = true) :
    Calls Try.prog 11 #[.agg (prc p).toArray, .int .i64 now, .int .i64 k, keyV e s m, .bool true] w (RNotePost p now k e s m true w) := by
  obtain ⟨⟨hd0, hd⟩, ht, hk⟩ : (0 ≤ (k : Int) ∧ (k : Int) < 8) ∧ (0 ≤ now ∧ now ≤ 1099511627776) ∧ krB e s m = true := by
    unfold noteB tmB at hyes
    simpa using hyes
  obtain ⟨x, hx⟩ : ∃ x, x = (p.all k).note now e s m true := ⟨_, rfl⟩
  have HXE := Kp.mk hx
  have HP : Kp (∀ r w', r = .returned (.tuple #[.int .i64 0, .agg (prc (p.put k x)).toArray]) → Below w.heap.size w w' → RNotePost p now k e s m true w r w') := ⟨fun r w' h1 h2 => by
    unfold RNotePost PS.note
    rw [if_pos hyes, if_pos hyes, Int.toNat_natCast, ← hx]
    exact ⟨h1, h2⟩⟩
  have HK8 : Kp (k < 8) := ⟨by omega⟩
  have hC := fun (w : World) => box_row (t := 40) (cs := prc p) (info40s p) w
  have HR := fun w1 => rkright_any e s m w1
  rw [hk] at HR
  obtain ⟨A, hA⟩ : ∃ A, A = w.heap.size := ⟨_, rfl⟩
  obtain ⟨C, hC'⟩ : ∃ C, C = A + 1 := ⟨_, rfl⟩
  obtain ⟨R, hR'⟩ : ∃ R, R = C + 1 := ⟨_, rfl⟩
  have HAR : Kp (A ≠ R) := ⟨by omega⟩
  have HLR : Kp (w.heap.size ≤ R) := ⟨by omega⟩
  obtain ⟨Z, hZ⟩ : ∃ Z, Z = ps00 := ⟨_, rfl⟩
  obtain ⟨W, hW⟩ : ∃ W, W = (((w.alloc (.cells (prc p).toArray 40)).alloc (.cells #[.int .u32 e, .int .u32 s, .int .i64 m] 35)).alloc (.cells (prc Z).toArray 40)) := ⟨_, rfl⟩
  have HW : Kp (RN p Z e s m A C R w W) := ⟨by
    rw [hW]
    exact ⟨((Blk.newAt _ hA).old _).old _, (Blk.newAt _ (by rw [hC', hA]; simp)).old _, Blk.newAt _ (by rw [hR', hC', hA]; simp), more (more (more (Below.refl _ _) _) _) _⟩⟩
  have HINF : Kp ((Try.prog.info? 40).map (fun i => (i.zero, i.size)) = some (some (.agg (prc Z).toArray), 60)) := ⟨by rw [hZ]; exact info40z⟩
  have HWE := Kp.mk hW
  have HE := Kp.mk (And.intro hA (And.intro hC' hR'))
  clear hyes hZ hW hA hC' hR' hx hk
  obtain ⟨n, hn⟩ : ∃ n, n = p.all k := ⟨_, rfl⟩
  rw [← hn] at HXE
  have HNE := Kp.mk hn
  rw [← hn] at hno hne
  have HNO := Kp.mk hno
  have HXC : Kp (x = ⟨true, e, s, m, now, true, true⟩) := ⟨by rw [HXE.out]; unfold NW.note; rw [if_pos (.inr hne)]; simp⟩
  have HW3 := fun w1 => rnewer_any e s m n.e n.s n.m w1
  rw [hne] at HW3
  clear hn hno hne HXE
  go_enter Try.func11, Try.ntmps11
  go_wp2_with (first
    | (refine wpList_box_eq rfl 40 (.tmp 0) rfl _ rfl _ _ (hC _) ?_)
    | (refine wpList_alloc_row rfl 40 rfl (prc Z).toArray 60 HINF.out ?_; refine wpl_world (· = W) (by show _ = W; rw [HWE.out]) ?_; intro W1 hW1; have hW2 : W1 = W := hW1; subst hW2; obtain ⟨k0, k1, k2, -⟩ := HW.out.c.three; rw [HE.out.2.1, HE.out.1] at k0 k1 k2))
  rw [← HE.out.1, ← HE.out.2.1, ← HE.out.2.2]
  refine (HR _).mono ?_
  rintro r w1 ⟨rfl, hb⟩
  have H1 := Kp.mk (HW.out.keep hb)
  clear hb HW k0 k1 k2 HR hC HINF HWE
  have HRA : Kp (w1.rangeAt A (4 + k * 7) (nrc n)) := ⟨by rw [HNE.out]; exact rnw_range H1.out.a HK8.out⟩
  obtain ⟨M, hM⟩ : ∃ M, M = w1.heap.size := ⟨_, rfl⟩
  have HM : Kp (A ≠ M ∧ C ≠ M ∧ R ≠ M ∧ w.heap.size ≤ M) := ⟨Nat.ne_of_lt (by rw [hM]; exact H1.out.a.lt), Nat.ne_of_lt (by rw [hM]; exact H1.out.c.lt), Nat.ne_of_lt (by rw [hM]; exact H1.out.r.lt), by rw [hM]; exact H1.out.hb.size⟩
  have HME := Kp.mk hM
  clear hM
  go_upto_region 4 with (first
    | (refine wpList_load_mid rfl 37 (.tmp 35) rfl A (4 + k * 7) rfl (nrc n) _ HRA.out Try.underlying37 rfl (by kernel_rfl) ?_)
    | (refine wpList_store_row rfl 37 (.tmp 12) (.tmp 36) rfl w1.heap.size (nrc n).toArray rfl rfl 37 _ (Blk.newAt _ rfl) (info37s n) rfl (all_oneCell_toArray (nrc_one n)) ?_
       rw [World.setRow_alloc_new]
       have H2 : Kp (RM p Z e s m A C R M w n (w1.alloc (.cells (nrc n).toArray 37))) := ⟨H1.out.keep (more (Below.refl _ _) _), Blk.newAt _ HME.out, HM.out⟩
       rw [← HME.out]
       refine wpl_world (RM p Z e s m A C R M w n) H2.out ?_
       clear H2
       intro W2 hW2
       have H2 := Kp.mk hW2
       clear hW2))
  obtain ⟨⟨⟨m0, m1, m2, m3, m4, m5, m6⟩, g0, g1, g2, g3, g4, g5, g6⟩, k0, k1, k2⟩ := H2.out.facts
  rw [HNO.out] at m3
  go_wp2_with fail
  refine (HW3 _).mono ?_
  rintro r w3 ⟨rfl, hb⟩
  have H3 : Kp (RM p Z e s m A C R M w n w3) := ⟨H2.out.keep hb⟩
  clear hb H2 HW3
  clear m0 m1 m2 m3 m4 m5 m6 g0 g1 g2 g3 g4 g5 g6 k0 k1 k2
  obtain ⟨⟨⟨m0, m1, m2, m3, m4, m5, m6⟩, g0, g1, g2, g3, g4, g5, g6⟩, k0, k1, k2⟩ := H3.out.facts
  go_upto_region 6 with fail
  have H4 := Kp.mk (H3.out.set ⟨n.noted, n.e, n.s, n.m, now, n.waits, n.urgent⟩ 6 (.int .i64 now) rfl)
  clear H3
  clear m0 m1 m2 m3 m4 m5 m6 g0 g1 g2 g3 g4 g5 g6 k0 k1 k2
  revert H4
  generalize World.setCell _ _ _ = W4
  intro H4
  obtain ⟨⟨⟨m0, m1, m2, m3, m4, m5, m6⟩, g0, g1, g2, g3, g4, g5, g6⟩, k0, k1, k2⟩ := H4.out.facts
  go_upto_region 7 with fail
  have H5 := Kp.mk (H4.out.set ⟨true, n.e, n.s, n.m, now, n.waits, n.urgent⟩ 3 (.bool true) rfl)
  clear H4
  clear m0 m1 m2 m3 m4 m5 m6 g0 g1 g2 g3 g4 g5 g6 k0 k1 k2
  revert H5
  generalize World.setCell _ _ _ = W5
  intro H5
  obtain ⟨⟨⟨m0, m1, m2, m3, m4, m5, m6⟩, g0, g1, g2, g3, g4, g5, g6⟩, k0, k1, k2⟩ := H5.out.facts
  go_upto_region 8 with fail
  have H6 := Kp.mk (((H5.out.set ⟨true, e, n.s, n.m, now, n.waits, n.urgent⟩ 0 (.int .u32 e) rfl).set ⟨true, e, s, n.m, now, n.waits, n.urgent⟩ 1 (.int .u32 s) rfl).set ⟨true, e, s, m, now, n.waits, n.urgent⟩ 2 (.int .i64 m) rfl)
  clear H5
  clear m0 m1 m2 m3 m4 m5 m6 g0 g1 g2 g3 g4 g5 g6 k0 k1 k2
  revert H6
  generalize World.setCell _ _ _ = W6
  intro H6
  obtain ⟨⟨⟨m0, m1, m2, m3, m4, m5, m6⟩, g0, g1, g2, g3, g4, g5, g6⟩, k0, k1, k2⟩ := H6.out.facts
  go_upto_region 9 with fail
  have H7 := Kp.mk (H6.out.set ⟨true, e, s, m, now, true, n.urgent⟩ 4 (.bool true) rfl)
  clear H6
  clear m0 m1 m2 m3 m4 m5 m6 g0 g1 g2 g3 g4 g5 g6 k0 k1 k2
  revert H7
  generalize World.setCell _ _ _ = W7
  intro H7
  obtain ⟨⟨⟨m0, m1, m2, m3, m4, m5, m6⟩, g0, g1, g2, g3, g4, g5, g6⟩, k0, k1, k2⟩ := H7.out.facts
  go_upto_region 11 with fail
  have H8 := Kp.mk (H7.out.set ⟨true, e, s, m, now, true, true⟩ 5 (.bool true) rfl)
  clear H7
  clear m0 m1 m2 m3 m4 m5 m6 g0 g1 g2 g3 g4 g5 g6 k0 k1 k2
  revert H8
  generalize World.setCell _ _ _ = W8
  intro H8
  obtain ⟨⟨⟨m0, m1, m2, m3, m4, m5, m6⟩, g0, g1, g2, g3, g4, g5, g6⟩, k0, k1, k2⟩ := H8.out.facts
  have HXM : Kp (RM p Z e s m A C R M w x W8) := ⟨by rw [HXC.out]; exact H8.out⟩
  clear H8
  clear m0 m1 m2 m3 m4 m5 m6 g0 g1 g2 g3 g4 g5 g6 k0 k1 k2
  go_wp2_with (first
    | (refine wpList_load_row rfl 37 (.tmp 12) rfl M rfl 37 (nrc x).toArray (0, 0) _ HXM.out.mb Try.underlying37 rfl (info37s x) ?_)
    | (refine wpList_store_mid rfl 37 (.tmp 57) (.tmp 55) rfl A (4 + k * 7) (nrc x).toArray rfl rfl (Blk.there HXM.out.rn.a (by rw [prc_len]; have := HK8.out; show 4 + k * 7 + 7 ≤ 60; omega)) (info37s x) (all_oneCell_toArray (nrc_one x)) ?_
       refine wpl_world (RN (p.put k x) Z e s m A C R w) (HXM.out.rn.put HK8.out (by have := HE.out; omega) HAR.out (by have := HE.out; omega) x) ?_
       intro W9 hW9
       have HRG : Kp (Blk W9 A (p.put k x).robj ∧ Blk W9 R (.cells (prc Z).toArray 40) ∧ Below w.heap.size w W9) := ⟨hW9.a, hW9.r, hW9.hb⟩
       clear hW9))
  refine wp_region_held_drew (S := fun w' => Blk w' A ((p.put k x)).robj ∧ ∃ qz : PS, Blk w' R (.cells (prc qz).toArray 40)) (by kernel_rfl) (⟨HRG.out.1.draw, _, HRG.out.2.1.draw⟩) (fun hH => ?_)
  refine wpAnyH_take (i := 0) (oi := { dst := some 58, op := Go.Op.load 40 (Go.Operand.tmp 5), type := 40, pos := "ref.go:55", after := #[{ on := 1, ground := Go.Ground.gcOnly Go.Departure.lateStores }], guard := none }) (v := .agg (prc (p.put k x)).toArray) rfl (by kernel_rfl) (by kernel_rfl) (by kernel_rfl) (fun _ _ _ h => h) (Or.inl ⟨by rfl, fun w hS => exec_load_mid (cs := prc (p.put k x)) rfl rfl (hS.1.range (o := 0) rfl) Try.underlying40 rfl (by kernel_rfl)⟩) hH ?_
  simp only [Act.put, List.setIfInBounds_toArray, List.set_cons_zero, List.set_cons_succ]
  refine wpAnyH_take (i := 1) (oi := { dst := some 10, op := Go.Op.assign (Go.Operand.const (Go.Value.int Go.IntKind.i64 0)), type := 3, pos := "ref.go:55", after := #[{ on := 0, ground := Go.Ground.textOnly Go.Departure.lateStores }], guard := none }) (v := .int .i64 0) rfl (by kernel_rfl) (by kernel_rfl) (by kernel_rfl) (fun _ _ _ h => h) (Or.inl ⟨by rfl, fun w hS => by go_simp⟩) hH ?_
  simp only [Act.put, List.setIfInBounds_toArray, List.set_cons_zero, List.set_cons_succ]
  refine wpAnyH_ready (rs := [2]) (by kernel_rfl) (by simp) ?_
  refine AllReadyH.cons (o := { dst := none, op := Go.Op.store 40 (Go.Operand.tmp 11) (Go.Operand.tmp 58), type := 0, pos := "ref.go:55", after := #[{ on := 0, ground := Go.Ground.data }, { on := 1, ground := Go.Ground.chain }, { on := 0, ground := Go.Ground.phase }, { on := 1, ground := Go.Ground.phase }], guard := none }) rfl (fun K hK => ?_) AllReadyH.nil
  obtain ⟨hHA, qz, hHR⟩ := hH
  refine wp_store_row 40 (.tmp 11) (.tmp 58) rfl R (prc (p.put k x)).toArray rfl rfl 40 _ hHR (info40s _) rfl (all_oneCell_toArray (prc_one _)) ?_
  have hH := hHA
  have HFI : Kp (Blk ((W9.drew).setRow R (prc (p.put k x)).toArray) R (.cells (prc (p.put k x)).toArray 40) ∧ Below w.heap.size w ((W9.drew).setRow R (prc (p.put k x)).toArray)) := ⟨Blk.setRow hHR _, Below.row (Below.drew HRG.out.2.2) HLR.out _⟩
  refine hK.out _ _ (⟨(setRow_other _ _ _ _ (fun e => HAR.out e)).trans hHA, _, HFI.out.1⟩) (fun hHn => ?_)
  clear hK K hH
  have hH := hHn
  clear hHn
  try simp only [Act.put, List.setIfInBounds_toArray, List.set_cons_zero, List.set_cons_succ]
  clear hH
  refine wpAnyH_done (by kernel_rfl) ?_ _
  clear HRG
  revert HFI
  generalize World.setRow _ _ _ = w5
  intro HFI
  go_wp2_with fail
  exact bodyPost_ret (v := .tuple #[.int .i64 0, .agg (prc (p.put k x)).toArray]) (ret11 rfl rfl HFI.out.1) rfl (HP.out _ _ rfl HFI.out.2)
set_option maxRecDepth 100000 in
set_option maxHeartbeats 6400000 in
theorem rnote_b0 (p : PS) (now e s m : Int) (k : Nat) (w : World) (hyes : noteB now k e s m = true) (hno : (p.all k).noted = true) (hne : nwB e s (p.all k).e (p.all k).s = true) :
    Calls Try.prog 11 #[.agg (prc p).toArray, .int .i64 now, .int .i64 k, keyV e s m, .bool false] w (RNotePost p now k e s m false w) := by
  obtain ⟨⟨hd0, hd⟩, ht, hk⟩ : (0 ≤ (k : Int) ∧ (k : Int) < 8) ∧ (0 ≤ now ∧ now ≤ 1099511627776) ∧ krB e s m = true := by
    unfold noteB tmB at hyes
    simpa using hyes
  obtain ⟨x, hx⟩ : ∃ x, x = (p.all k).note now e s m false := ⟨_, rfl⟩
  have HXE := Kp.mk hx
  have HP : Kp (∀ r w', r = .returned (.tuple #[.int .i64 0, .agg (prc (p.put k x)).toArray]) → Below w.heap.size w w' → RNotePost p now k e s m false w r w') := ⟨fun r w' h1 h2 => by
    unfold RNotePost PS.note
    rw [if_pos hyes, if_pos hyes, Int.toNat_natCast, ← hx]
    exact ⟨h1, h2⟩⟩
  have HK8 : Kp (k < 8) := ⟨by omega⟩
  have hC := fun (w : World) => box_row (t := 40) (cs := prc p) (info40s p) w
  have HR := fun w1 => rkright_any e s m w1
  rw [hk] at HR
  obtain ⟨A, hA⟩ : ∃ A, A = w.heap.size := ⟨_, rfl⟩
  obtain ⟨C, hC'⟩ : ∃ C, C = A + 1 := ⟨_, rfl⟩
  obtain ⟨R, hR'⟩ : ∃ R, R = C + 1 := ⟨_, rfl⟩
  have HAR : Kp (A ≠ R) := ⟨by omega⟩
  have HLR : Kp (w.heap.size ≤ R) := ⟨by omega⟩
  obtain ⟨Z, hZ⟩ : ∃ Z, Z = ps00 := ⟨_, rfl⟩
  obtain ⟨W, hW⟩ : ∃ W, W = (((w.alloc (.cells (prc p).toArray 40)).alloc (.cells #[.int .u32 e, .int .u32 s, .int .i64 m] 35)).alloc (.cells (prc Z).toArray 40)) := ⟨_, rfl⟩
  have HW : Kp (RN p Z e s m A C R w W) := ⟨by
    rw [hW]
    exact ⟨((Blk.newAt _ hA).old _).old _, (Blk.newAt _ (by rw [hC', hA]; simp)).old _, Blk.newAt _ (by rw [hR', hC', hA]; simp), more (more (more (Below.refl _ _) _) _) _⟩⟩
  have HINF : Kp ((Try.prog.info? 40).map (fun i => (i.zero, i.size)) = some (some (.agg (prc Z).toArray), 60)) := ⟨by rw [hZ]; exact info40z⟩
  have HWE := Kp.mk hW
  have HE := Kp.mk (And.intro hA (And.intro hC' hR'))
  clear hyes hZ hW hA hC' hR' hx hk
  obtain ⟨n, hn⟩ : ∃ n, n = p.all k := ⟨_, rfl⟩
  rw [← hn] at HXE
  have HNE := Kp.mk hn
  rw [← hn] at hno hne
  have HNO := Kp.mk hno
  have HXC : Kp (x = ⟨true, e, s, m, now, true, n.urgent⟩) := ⟨by rw [HXE.out]; unfold NW.note; rw [if_pos (.inr hne)]; simp⟩
  have HW3 := fun w1 => rnewer_any e s m n.e n.s n.m w1
  rw [hne] at HW3
  clear hn hno hne HXE
  go_enter Try.func11, Try.ntmps11
  go_wp2_with (first
    | (refine wpList_box_eq rfl 40 (.tmp 0) rfl _ rfl _ _ (hC _) ?_)
    | (refine wpList_alloc_row rfl 40 rfl (prc Z).toArray 60 HINF.out ?_; refine wpl_world (· = W) (by show _ = W; rw [HWE.out]) ?_; intro W1 hW1; have hW2 : W1 = W := hW1; subst hW2; obtain ⟨k0, k1, k2, -⟩ := HW.out.c.three; rw [HE.out.2.1, HE.out.1] at k0 k1 k2))
  rw [← HE.out.1, ← HE.out.2.1, ← HE.out.2.2]
  refine (HR _).mono ?_
  rintro r w1 ⟨rfl, hb⟩
  have H1 := Kp.mk (HW.out.keep hb)
  clear hb HW k0 k1 k2 HR hC HINF HWE
  have HRA : Kp (w1.rangeAt A (4 + k * 7) (nrc n)) := ⟨by rw [HNE.out]; exact rnw_range H1.out.a HK8.out⟩
  obtain ⟨M, hM⟩ : ∃ M, M = w1.heap.size := ⟨_, rfl⟩
  have HM : Kp (A ≠ M ∧ C ≠ M ∧ R ≠ M ∧ w.heap.size ≤ M) := ⟨Nat.ne_of_lt (by rw [hM]; exact H1.out.a.lt), Nat.ne_of_lt (by rw [hM]; exact H1.out.c.lt), Nat.ne_of_lt (by rw [hM]; exact H1.out.r.lt), by rw [hM]; exact H1.out.hb.size⟩
  have HME := Kp.mk hM
  clear hM
  go_upto_region 4 with (first
    | (refine wpList_load_mid rfl 37 (.tmp 35) rfl A (4 + k * 7) rfl (nrc n) _ HRA.out Try.underlying37 rfl (by kernel_rfl) ?_)
    | (refine wpList_store_row rfl 37 (.tmp 12) (.tmp 36) rfl w1.heap.size (nrc n).toArray rfl rfl 37 _ (Blk.newAt _ rfl) (info37s n) rfl (all_oneCell_toArray (nrc_one n)) ?_
       rw [World.setRow_alloc_new]
       have H2 : Kp (RM p Z e s m A C R M w n (w1.alloc (.cells (nrc n).toArray 37))) := ⟨H1.out.keep (more (Below.refl _ _) _), Blk.newAt _ HME.out, HM.out⟩
       rw [← HME.out]
       refine wpl_world (RM p Z e s m A C R M w n) H2.out ?_
       clear H2
       intro W2 hW2
       have H2 := Kp.mk hW2
       clear hW2))
  obtain ⟨⟨⟨m0, m1, m2, m3, m4, m5, m6⟩, g0, g1, g2, g3, g4, g5, g6⟩, k0, k1, k2⟩ := H2.out.facts
  rw [HNO.out] at m3
  go_wp2_with fail
  refine (HW3 _).mono ?_
  rintro r w3 ⟨rfl, hb⟩
  have H3 : Kp (RM p Z e s m A C R M w n w3) := ⟨H2.out.keep hb⟩
  clear hb H2 HW3
  clear m0 m1 m2 m3 m4 m5 m6 g0 g1 g2 g3 g4 g5 g6 k0 k1 k2
  obtain ⟨⟨⟨m0, m1, m2, m3, m4, m5, m6⟩, g0, g1, g2, g3, g4, g5, g6⟩, k0, k1, k2⟩ := H3.out.facts
  go_upto_region 6 with fail
  have H4 := Kp.mk (H3.out.set ⟨n.noted, n.e, n.s, n.m, now, n.waits, n.urgent⟩ 6 (.int .i64 now) rfl)
  clear H3
  clear m0 m1 m2 m3 m4 m5 m6 g0 g1 g2 g3 g4 g5 g6 k0 k1 k2
  revert H4
  generalize World.setCell _ _ _ = W4
  intro H4
  obtain ⟨⟨⟨m0, m1, m2, m3, m4, m5, m6⟩, g0, g1, g2, g3, g4, g5, g6⟩, k0, k1, k2⟩ := H4.out.facts
  go_upto_region 7 with fail
  have H5 := Kp.mk (H4.out.set ⟨true, n.e, n.s, n.m, now, n.waits, n.urgent⟩ 3 (.bool true) rfl)
  clear H4
  clear m0 m1 m2 m3 m4 m5 m6 g0 g1 g2 g3 g4 g5 g6 k0 k1 k2
  revert H5
  generalize World.setCell _ _ _ = W5
  intro H5
  obtain ⟨⟨⟨m0, m1, m2, m3, m4, m5, m6⟩, g0, g1, g2, g3, g4, g5, g6⟩, k0, k1, k2⟩ := H5.out.facts
  go_upto_region 8 with fail
  have H6 := Kp.mk (((H5.out.set ⟨true, e, n.s, n.m, now, n.waits, n.urgent⟩ 0 (.int .u32 e) rfl).set ⟨true, e, s, n.m, now, n.waits, n.urgent⟩ 1 (.int .u32 s) rfl).set ⟨true, e, s, m, now, n.waits, n.urgent⟩ 2 (.int .i64 m) rfl)
  clear H5
  clear m0 m1 m2 m3 m4 m5 m6 g0 g1 g2 g3 g4 g5 g6 k0 k1 k2
  revert H6
  generalize World.setCell _ _ _ = W6
  intro H6
  obtain ⟨⟨⟨m0, m1, m2, m3, m4, m5, m6⟩, g0, g1, g2, g3, g4, g5, g6⟩, k0, k1, k2⟩ := H6.out.facts
  go_upto_region 9 with fail
  have H7 := Kp.mk (H6.out.set ⟨true, e, s, m, now, true, n.urgent⟩ 4 (.bool true) rfl)
  clear H6
  clear m0 m1 m2 m3 m4 m5 m6 g0 g1 g2 g3 g4 g5 g6 k0 k1 k2
  revert H7
  generalize World.setCell _ _ _ = W7
  intro H7
  obtain ⟨⟨⟨m0, m1, m2, m3, m4, m5, m6⟩, g0, g1, g2, g3, g4, g5, g6⟩, k0, k1, k2⟩ := H7.out.facts
  have HXM : Kp (RM p Z e s m A C R M w x W7) := ⟨by rw [HXC.out]; exact H7.out⟩
  clear H7
  clear m0 m1 m2 m3 m4 m5 m6 g0 g1 g2 g3 g4 g5 g6 k0 k1 k2
  go_wp2_with (first
    | (refine wpList_load_row rfl 37 (.tmp 12) rfl M rfl 37 (nrc x).toArray (0, 0) _ HXM.out.mb Try.underlying37 rfl (info37s x) ?_)
    | (refine wpList_store_mid rfl 37 (.tmp 57) (.tmp 55) rfl A (4 + k * 7) (nrc x).toArray rfl rfl (Blk.there HXM.out.rn.a (by rw [prc_len]; have := HK8.out; show 4 + k * 7 + 7 ≤ 60; omega)) (info37s x) (all_oneCell_toArray (nrc_one x)) ?_
       refine wpl_world (RN (p.put k x) Z e s m A C R w) (HXM.out.rn.put HK8.out (by have := HE.out; omega) HAR.out (by have := HE.out; omega) x) ?_
       intro W9 hW9
       have HRG : Kp (Blk W9 A (p.put k x).robj ∧ Blk W9 R (.cells (prc Z).toArray 40) ∧ Below w.heap.size w W9) := ⟨hW9.a, hW9.r, hW9.hb⟩
       clear hW9))
  refine wp_region_held_drew (S := fun w' => Blk w' A ((p.put k x)).robj ∧ ∃ qz : PS, Blk w' R (.cells (prc qz).toArray 40)) (by kernel_rfl) (⟨HRG.out.1.draw, _, HRG.out.2.1.draw⟩) (fun hH => ?_)
  refine wpAnyH_take (i := 0) (oi := { dst := some 58, op := Go.Op.load 40 (Go.Operand.tmp 5), type := 40, pos := "ref.go:55", after := #[{ on := 1, ground := Go.Ground.gcOnly Go.Departure.lateStores }], guard := none }) (v := .agg (prc (p.put k x)).toArray) rfl (by kernel_rfl) (by kernel_rfl) (by kernel_rfl) (fun _ _ _ h => h) (Or.inl ⟨by rfl, fun w hS => exec_load_mid (cs := prc (p.put k x)) rfl rfl (hS.1.range (o := 0) rfl) Try.underlying40 rfl (by kernel_rfl)⟩) hH ?_
  simp only [Act.put, List.setIfInBounds_toArray, List.set_cons_zero, List.set_cons_succ]
  refine wpAnyH_take (i := 1) (oi := { dst := some 10, op := Go.Op.assign (Go.Operand.const (Go.Value.int Go.IntKind.i64 0)), type := 3, pos := "ref.go:55", after := #[{ on := 0, ground := Go.Ground.textOnly Go.Departure.lateStores }], guard := none }) (v := .int .i64 0) rfl (by kernel_rfl) (by kernel_rfl) (by kernel_rfl) (fun _ _ _ h => h) (Or.inl ⟨by rfl, fun w hS => by go_simp⟩) hH ?_
  simp only [Act.put, List.setIfInBounds_toArray, List.set_cons_zero, List.set_cons_succ]
  refine wpAnyH_ready (rs := [2]) (by kernel_rfl) (by simp) ?_
  refine AllReadyH.cons (o := { dst := none, op := Go.Op.store 40 (Go.Operand.tmp 11) (Go.Operand.tmp 58), type := 0, pos := "ref.go:55", after := #[{ on := 0, ground := Go.Ground.data }, { on := 1, ground := Go.Ground.chain }, { on := 0, ground := Go.Ground.phase }, { on := 1, ground := Go.Ground.phase }], guard := none }) rfl (fun K hK => ?_) AllReadyH.nil
  obtain ⟨hHA, qz, hHR⟩ := hH
  refine wp_store_row 40 (.tmp 11) (.tmp 58) rfl R (prc (p.put k x)).toArray rfl rfl 40 _ hHR (info40s _) rfl (all_oneCell_toArray (prc_one _)) ?_
  have hH := hHA
  have HFI : Kp (Blk ((W9.drew).setRow R (prc (p.put k x)).toArray) R (.cells (prc (p.put k x)).toArray 40) ∧ Below w.heap.size w ((W9.drew).setRow R (prc (p.put k x)).toArray)) := ⟨Blk.setRow hHR _, Below.row (Below.drew HRG.out.2.2) HLR.out _⟩
  refine hK.out _ _ (⟨(setRow_other _ _ _ _ (fun e => HAR.out e)).trans hHA, _, HFI.out.1⟩) (fun hHn => ?_)
  clear hK K hH
  have hH := hHn
  clear hHn
  try simp only [Act.put, List.setIfInBounds_toArray, List.set_cons_zero, List.set_cons_succ]
  clear hH
  refine wpAnyH_done (by kernel_rfl) ?_ _
  clear HRG
  revert HFI
  generalize World.setRow _ _ _ = w5
  intro HFI
  go_wp2_with fail
  exact bodyPost_ret (v := .tuple #[.int .i64 0, .agg (prc (p.put k x)).toArray]) (ret11 rfl rfl HFI.out.1) rfl (HP.out _ _ rfl HFI.out.2)
set_option maxRecDepth 100000 in
set_option maxHeartbeats 6400000 in
theorem rnote_c1 (p : PS) (now e s m : Int) (k : Nat) (w : World) (hyes : noteB now k e s m = true) (hno : (p.all k).noted = true) (hne : nwB e s (p.all k).e (p.all k).s = false) :
    Calls Try.prog 11 #[.agg (prc p).toArray, .int .i64 now, .int .i64 k, keyV e s m, .bool true] w (RNotePost p now k e s m true w) := by
  obtain ⟨⟨hd0, hd⟩, ht, hk⟩ : (0 ≤ (k : Int) ∧ (k : Int) < 8) ∧ (0 ≤ now ∧ now ≤ 1099511627776) ∧ krB e s m = true := by
    unfold noteB tmB at hyes
    simpa using hyes
  obtain ⟨x, hx⟩ : ∃ x, x = (p.all k).note now e s m true := ⟨_, rfl⟩
  have HXE := Kp.mk hx
  have HP : Kp (∀ r w', r = .returned (.tuple #[.int .i64 0, .agg (prc (p.put k x)).toArray]) → Below w.heap.size w w' → RNotePost p now k e s m true w r w') := ⟨fun r w' h1 h2 => by
    unfold RNotePost PS.note
    rw [if_pos hyes, if_pos hyes, Int.toNat_natCast, ← hx]
    exact ⟨h1, h2⟩⟩
  have HK8 : Kp (k < 8) := ⟨by omega⟩
  have hC := fun (w : World) => box_row (t := 40) (cs := prc p) (info40s p) w
  have HR := fun w1 => rkright_any e s m w1
  rw [hk] at HR
  obtain ⟨A, hA⟩ : ∃ A, A = w.heap.size := ⟨_, rfl⟩
  obtain ⟨C, hC'⟩ : ∃ C, C = A + 1 := ⟨_, rfl⟩
  obtain ⟨R, hR'⟩ : ∃ R, R = C + 1 := ⟨_, rfl⟩
  have HAR : Kp (A ≠ R) := ⟨by omega⟩
  have HLR : Kp (w.heap.size ≤ R) := ⟨by omega⟩
  obtain ⟨Z, hZ⟩ : ∃ Z, Z = ps00 := ⟨_, rfl⟩
  obtain ⟨W, hW⟩ : ∃ W, W = (((w.alloc (.cells (prc p).toArray 40)).alloc (.cells #[.int .u32 e, .int .u32 s, .int .i64 m] 35)).alloc (.cells (prc Z).toArray 40)) := ⟨_, rfl⟩
  have HW : Kp (RN p Z e s m A C R w W) := ⟨by
    rw [hW]
    exact ⟨((Blk.newAt _ hA).old _).old _, (Blk.newAt _ (by rw [hC', hA]; simp)).old _, Blk.newAt _ (by rw [hR', hC', hA]; simp), more (more (more (Below.refl _ _) _) _) _⟩⟩
  have HINF : Kp ((Try.prog.info? 40).map (fun i => (i.zero, i.size)) = some (some (.agg (prc Z).toArray), 60)) := ⟨by rw [hZ]; exact info40z⟩
  have HWE := Kp.mk hW
  have HE := Kp.mk (And.intro hA (And.intro hC' hR'))
  clear hyes hZ hW hA hC' hR' hx hk
  obtain ⟨n, hn⟩ : ∃ n, n = p.all k := ⟨_, rfl⟩
  rw [← hn] at HXE
  have HNE := Kp.mk hn
  rw [← hn] at hno hne
  have HNO := Kp.mk hno
  have HXC : Kp (x = ⟨true, e, s, m, n.first, true, true⟩) := ⟨by rw [HXE.out]; unfold NW.note; rw [if_neg (by rw [hno, hne]; simp)]; simp⟩
  have HW3 := fun w1 => rnewer_any e s m n.e n.s n.m w1
  rw [hne] at HW3
  clear hn hno hne HXE
  go_enter Try.func11, Try.ntmps11
  go_wp2_with (first
    | (refine wpList_box_eq rfl 40 (.tmp 0) rfl _ rfl _ _ (hC _) ?_)
    | (refine wpList_alloc_row rfl 40 rfl (prc Z).toArray 60 HINF.out ?_; refine wpl_world (· = W) (by show _ = W; rw [HWE.out]) ?_; intro W1 hW1; have hW2 : W1 = W := hW1; subst hW2; obtain ⟨k0, k1, k2, -⟩ := HW.out.c.three; rw [HE.out.2.1, HE.out.1] at k0 k1 k2))
  rw [← HE.out.1, ← HE.out.2.1, ← HE.out.2.2]
  refine (HR _).mono ?_
  rintro r w1 ⟨rfl, hb⟩
  have H1 := Kp.mk (HW.out.keep hb)
  clear hb HW k0 k1 k2 HR hC HINF HWE
  have HRA : Kp (w1.rangeAt A (4 + k * 7) (nrc n)) := ⟨by rw [HNE.out]; exact rnw_range H1.out.a HK8.out⟩
  obtain ⟨M, hM⟩ : ∃ M, M = w1.heap.size := ⟨_, rfl⟩
  have HM : Kp (A ≠ M ∧ C ≠ M ∧ R ≠ M ∧ w.heap.size ≤ M) := ⟨Nat.ne_of_lt (by rw [hM]; exact H1.out.a.lt), Nat.ne_of_lt (by rw [hM]; exact H1.out.c.lt), Nat.ne_of_lt (by rw [hM]; exact H1.out.r.lt), by rw [hM]; exact H1.out.hb.size⟩
  have HME := Kp.mk hM
  clear hM
  go_upto_region 4 with (first
    | (refine wpList_load_mid rfl 37 (.tmp 35) rfl A (4 + k * 7) rfl (nrc n) _ HRA.out Try.underlying37 rfl (by kernel_rfl) ?_)
    | (refine wpList_store_row rfl 37 (.tmp 12) (.tmp 36) rfl w1.heap.size (nrc n).toArray rfl rfl 37 _ (Blk.newAt _ rfl) (info37s n) rfl (all_oneCell_toArray (nrc_one n)) ?_
       rw [World.setRow_alloc_new]
       have H2 : Kp (RM p Z e s m A C R M w n (w1.alloc (.cells (nrc n).toArray 37))) := ⟨H1.out.keep (more (Below.refl _ _) _), Blk.newAt _ HME.out, HM.out⟩
       rw [← HME.out]
       refine wpl_world (RM p Z e s m A C R M w n) H2.out ?_
       clear H2
       intro W2 hW2
       have H2 := Kp.mk hW2
       clear hW2))
  obtain ⟨⟨⟨m0, m1, m2, m3, m4, m5, m6⟩, g0, g1, g2, g3, g4, g5, g6⟩, k0, k1, k2⟩ := H2.out.facts
  rw [HNO.out] at m3
  go_wp2_with fail
  refine (HW3 _).mono ?_
  rintro r w3 ⟨rfl, hb⟩
  have H3 : Kp (RM p Z e s m A C R M w n w3) := ⟨H2.out.keep hb⟩
  clear hb H2 HW3
  clear m0 m1 m2 m3 m4 m5 m6 g0 g1 g2 g3 g4 g5 g6 k0 k1 k2
  obtain ⟨⟨⟨m0, m1, m2, m3, m4, m5, m6⟩, g0, g1, g2, g3, g4, g5, g6⟩, k0, k1, k2⟩ := H3.out.facts
  go_upto_region 7 with fail
  have H4 := Kp.mk (H3.out.set ⟨true, n.e, n.s, n.m, n.first, n.waits, n.urgent⟩ 3 (.bool true) rfl)
  clear H3
  clear m0 m1 m2 m3 m4 m5 m6 g0 g1 g2 g3 g4 g5 g6 k0 k1 k2
  revert H4
  generalize World.setCell _ _ _ = W4
  intro H4
  obtain ⟨⟨⟨m0, m1, m2, m3, m4, m5, m6⟩, g0, g1, g2, g3, g4, g5, g6⟩, k0, k1, k2⟩ := H4.out.facts
  go_upto_region 8 with fail
  have H5 := Kp.mk (((H4.out.set ⟨true, e, n.s, n.m, n.first, n.waits, n.urgent⟩ 0 (.int .u32 e) rfl).set ⟨true, e, s, n.m, n.first, n.waits, n.urgent⟩ 1 (.int .u32 s) rfl).set ⟨true, e, s, m, n.first, n.waits, n.urgent⟩ 2 (.int .i64 m) rfl)
  clear H4
  clear m0 m1 m2 m3 m4 m5 m6 g0 g1 g2 g3 g4 g5 g6 k0 k1 k2
  revert H5
  generalize World.setCell _ _ _ = W5
  intro H5
  obtain ⟨⟨⟨m0, m1, m2, m3, m4, m5, m6⟩, g0, g1, g2, g3, g4, g5, g6⟩, k0, k1, k2⟩ := H5.out.facts
  go_upto_region 9 with fail
  have H6 := Kp.mk (H5.out.set ⟨true, e, s, m, n.first, true, n.urgent⟩ 4 (.bool true) rfl)
  clear H5
  clear m0 m1 m2 m3 m4 m5 m6 g0 g1 g2 g3 g4 g5 g6 k0 k1 k2
  revert H6
  generalize World.setCell _ _ _ = W6
  intro H6
  obtain ⟨⟨⟨m0, m1, m2, m3, m4, m5, m6⟩, g0, g1, g2, g3, g4, g5, g6⟩, k0, k1, k2⟩ := H6.out.facts
  go_upto_region 11 with fail
  have H7 := Kp.mk (H6.out.set ⟨true, e, s, m, n.first, true, true⟩ 5 (.bool true) rfl)
  clear H6
  clear m0 m1 m2 m3 m4 m5 m6 g0 g1 g2 g3 g4 g5 g6 k0 k1 k2
  revert H7
  generalize World.setCell _ _ _ = W7
  intro H7
  obtain ⟨⟨⟨m0, m1, m2, m3, m4, m5, m6⟩, g0, g1, g2, g3, g4, g5, g6⟩, k0, k1, k2⟩ := H7.out.facts
  have HXM : Kp (RM p Z e s m A C R M w x W7) := ⟨by rw [HXC.out]; exact H7.out⟩
  clear H7
  clear m0 m1 m2 m3 m4 m5 m6 g0 g1 g2 g3 g4 g5 g6 k0 k1 k2
  go_wp2_with (first
    | (refine wpList_load_row rfl 37 (.tmp 12) rfl M rfl 37 (nrc x).toArray (0, 0) _ HXM.out.mb Try.underlying37 rfl (info37s x) ?_)
    | (refine wpList_store_mid rfl 37 (.tmp 57) (.tmp 55) rfl A (4 + k * 7) (nrc x).toArray rfl rfl (Blk.there HXM.out.rn.a (by rw [prc_len]; have := HK8.out; show 4 + k * 7 + 7 ≤ 60; omega)) (info37s x) (all_oneCell_toArray (nrc_one x)) ?_
       refine wpl_world (RN (p.put k x) Z e s m A C R w) (HXM.out.rn.put HK8.out (by have := HE.out; omega) HAR.out (by have := HE.out; omega) x) ?_
       intro W9 hW9
       have HRG : Kp (Blk W9 A (p.put k x).robj ∧ Blk W9 R (.cells (prc Z).toArray 40) ∧ Below w.heap.size w W9) := ⟨hW9.a, hW9.r, hW9.hb⟩
       clear hW9))
  refine wp_region_held_drew (S := fun w' => Blk w' A ((p.put k x)).robj ∧ ∃ qz : PS, Blk w' R (.cells (prc qz).toArray 40)) (by kernel_rfl) (⟨HRG.out.1.draw, _, HRG.out.2.1.draw⟩) (fun hH => ?_)
  refine wpAnyH_take (i := 0) (oi := { dst := some 58, op := Go.Op.load 40 (Go.Operand.tmp 5), type := 40, pos := "ref.go:55", after := #[{ on := 1, ground := Go.Ground.gcOnly Go.Departure.lateStores }], guard := none }) (v := .agg (prc (p.put k x)).toArray) rfl (by kernel_rfl) (by kernel_rfl) (by kernel_rfl) (fun _ _ _ h => h) (Or.inl ⟨by rfl, fun w hS => exec_load_mid (cs := prc (p.put k x)) rfl rfl (hS.1.range (o := 0) rfl) Try.underlying40 rfl (by kernel_rfl)⟩) hH ?_
  simp only [Act.put, List.setIfInBounds_toArray, List.set_cons_zero, List.set_cons_succ]
  refine wpAnyH_take (i := 1) (oi := { dst := some 10, op := Go.Op.assign (Go.Operand.const (Go.Value.int Go.IntKind.i64 0)), type := 3, pos := "ref.go:55", after := #[{ on := 0, ground := Go.Ground.textOnly Go.Departure.lateStores }], guard := none }) (v := .int .i64 0) rfl (by kernel_rfl) (by kernel_rfl) (by kernel_rfl) (fun _ _ _ h => h) (Or.inl ⟨by rfl, fun w hS => by go_simp⟩) hH ?_
  simp only [Act.put, List.setIfInBounds_toArray, List.set_cons_zero, List.set_cons_succ]
  refine wpAnyH_ready (rs := [2]) (by kernel_rfl) (by simp) ?_
  refine AllReadyH.cons (o := { dst := none, op := Go.Op.store 40 (Go.Operand.tmp 11) (Go.Operand.tmp 58), type := 0, pos := "ref.go:55", after := #[{ on := 0, ground := Go.Ground.data }, { on := 1, ground := Go.Ground.chain }, { on := 0, ground := Go.Ground.phase }, { on := 1, ground := Go.Ground.phase }], guard := none }) rfl (fun K hK => ?_) AllReadyH.nil
  obtain ⟨hHA, qz, hHR⟩ := hH
  refine wp_store_row 40 (.tmp 11) (.tmp 58) rfl R (prc (p.put k x)).toArray rfl rfl 40 _ hHR (info40s _) rfl (all_oneCell_toArray (prc_one _)) ?_
  have hH := hHA
  have HFI : Kp (Blk ((W9.drew).setRow R (prc (p.put k x)).toArray) R (.cells (prc (p.put k x)).toArray 40) ∧ Below w.heap.size w ((W9.drew).setRow R (prc (p.put k x)).toArray)) := ⟨Blk.setRow hHR _, Below.row (Below.drew HRG.out.2.2) HLR.out _⟩
  refine hK.out _ _ (⟨(setRow_other _ _ _ _ (fun e => HAR.out e)).trans hHA, _, HFI.out.1⟩) (fun hHn => ?_)
  clear hK K hH
  have hH := hHn
  clear hHn
  try simp only [Act.put, List.setIfInBounds_toArray, List.set_cons_zero, List.set_cons_succ]
  clear hH
  refine wpAnyH_done (by kernel_rfl) ?_ _
  clear HRG
  revert HFI
  generalize World.setRow _ _ _ = w5
  intro HFI
  go_wp2_with fail
  exact bodyPost_ret (v := .tuple #[.int .i64 0, .agg (prc (p.put k x)).toArray]) (ret11 rfl rfl HFI.out.1) rfl (HP.out _ _ rfl HFI.out.2)
set_option maxRecDepth 100000 in
set_option maxHeartbeats 6400000 in
theorem rnote_c0 (p : PS) (now e s m : Int) (k : Nat) (w : World) (hyes : noteB now k e s m = true) (hno : (p.all k).noted = true) (hne : nwB e s (p.all k).e (p.all k).s = false) :
    Calls Try.prog 11 #[.agg (prc p).toArray, .int .i64 now, .int .i64 k, keyV e s m, .bool false] w (RNotePost p now k e s m false w) := by
  obtain ⟨⟨hd0, hd⟩, ht, hk⟩ : (0 ≤ (k : Int) ∧ (k : Int) < 8) ∧ (0 ≤ now ∧ now ≤ 1099511627776) ∧ krB e s m = true := by
    unfold noteB tmB at hyes
    simpa using hyes
  obtain ⟨x, hx⟩ : ∃ x, x = (p.all k).note now e s m false := ⟨_, rfl⟩
  have HXE := Kp.mk hx
  have HP : Kp (∀ r w', r = .returned (.tuple #[.int .i64 0, .agg (prc (p.put k x)).toArray]) → Below w.heap.size w w' → RNotePost p now k e s m false w r w') := ⟨fun r w' h1 h2 => by
    unfold RNotePost PS.note
    rw [if_pos hyes, if_pos hyes, Int.toNat_natCast, ← hx]
    exact ⟨h1, h2⟩⟩
  have HK8 : Kp (k < 8) := ⟨by omega⟩
  have hC := fun (w : World) => box_row (t := 40) (cs := prc p) (info40s p) w
  have HR := fun w1 => rkright_any e s m w1
  rw [hk] at HR
  obtain ⟨A, hA⟩ : ∃ A, A = w.heap.size := ⟨_, rfl⟩
  obtain ⟨C, hC'⟩ : ∃ C, C = A + 1 := ⟨_, rfl⟩
  obtain ⟨R, hR'⟩ : ∃ R, R = C + 1 := ⟨_, rfl⟩
  have HAR : Kp (A ≠ R) := ⟨by omega⟩
  have HLR : Kp (w.heap.size ≤ R) := ⟨by omega⟩
  obtain ⟨Z, hZ⟩ : ∃ Z, Z = ps00 := ⟨_, rfl⟩
  obtain ⟨W, hW⟩ : ∃ W, W = (((w.alloc (.cells (prc p).toArray 40)).alloc (.cells #[.int .u32 e, .int .u32 s, .int .i64 m] 35)).alloc (.cells (prc Z).toArray 40)) := ⟨_, rfl⟩
  have HW : Kp (RN p Z e s m A C R w W) := ⟨by
    rw [hW]
    exact ⟨((Blk.newAt _ hA).old _).old _, (Blk.newAt _ (by rw [hC', hA]; simp)).old _, Blk.newAt _ (by rw [hR', hC', hA]; simp), more (more (more (Below.refl _ _) _) _) _⟩⟩
  have HINF : Kp ((Try.prog.info? 40).map (fun i => (i.zero, i.size)) = some (some (.agg (prc Z).toArray), 60)) := ⟨by rw [hZ]; exact info40z⟩
  have HWE := Kp.mk hW
  have HE := Kp.mk (And.intro hA (And.intro hC' hR'))
  clear hyes hZ hW hA hC' hR' hx hk
  obtain ⟨n, hn⟩ : ∃ n, n = p.all k := ⟨_, rfl⟩
  rw [← hn] at HXE
  have HNE := Kp.mk hn
  rw [← hn] at hno hne
  have HNO := Kp.mk hno
  have HXC : Kp (x = ⟨true, e, s, m, n.first, true, n.urgent⟩) := ⟨by rw [HXE.out]; unfold NW.note; rw [if_neg (by rw [hno, hne]; simp)]; simp⟩
  have HW3 := fun w1 => rnewer_any e s m n.e n.s n.m w1
  rw [hne] at HW3
  clear hn hno hne HXE
  go_enter Try.func11, Try.ntmps11
  go_wp2_with (first
    | (refine wpList_box_eq rfl 40 (.tmp 0) rfl _ rfl _ _ (hC _) ?_)
    | (refine wpList_alloc_row rfl 40 rfl (prc Z).toArray 60 HINF.out ?_; refine wpl_world (· = W) (by show _ = W; rw [HWE.out]) ?_; intro W1 hW1; have hW2 : W1 = W := hW1; subst hW2; obtain ⟨k0, k1, k2, -⟩ := HW.out.c.three; rw [HE.out.2.1, HE.out.1] at k0 k1 k2))
  rw [← HE.out.1, ← HE.out.2.1, ← HE.out.2.2]
  refine (HR _).mono ?_
  rintro r w1 ⟨rfl, hb⟩
  have H1 := Kp.mk (HW.out.keep hb)
  clear hb HW k0 k1 k2 HR hC HINF HWE
  have HRA : Kp (w1.rangeAt A (4 + k * 7) (nrc n)) := ⟨by rw [HNE.out]; exact rnw_range H1.out.a HK8.out⟩
  obtain ⟨M, hM⟩ : ∃ M, M = w1.heap.size := ⟨_, rfl⟩
  have HM : Kp (A ≠ M ∧ C ≠ M ∧ R ≠ M ∧ w.heap.size ≤ M) := ⟨Nat.ne_of_lt (by rw [hM]; exact H1.out.a.lt), Nat.ne_of_lt (by rw [hM]; exact H1.out.c.lt), Nat.ne_of_lt (by rw [hM]; exact H1.out.r.lt), by rw [hM]; exact H1.out.hb.size⟩
  have HME := Kp.mk hM
  clear hM
  go_upto_region 4 with (first
    | (refine wpList_load_mid rfl 37 (.tmp 35) rfl A (4 + k * 7) rfl (nrc n) _ HRA.out Try.underlying37 rfl (by kernel_rfl) ?_)
    | (refine wpList_store_row rfl 37 (.tmp 12) (.tmp 36) rfl w1.heap.size (nrc n).toArray rfl rfl 37 _ (Blk.newAt _ rfl) (info37s n) rfl (all_oneCell_toArray (nrc_one n)) ?_
       rw [World.setRow_alloc_new]
       have H2 : Kp (RM p Z e s m A C R M w n (w1.alloc (.cells (nrc n).toArray 37))) := ⟨H1.out.keep (more (Below.refl _ _) _), Blk.newAt _ HME.out, HM.out⟩
       rw [← HME.out]
       refine wpl_world (RM p Z e s m A C R M w n) H2.out ?_
       clear H2
       intro W2 hW2
       have H2 := Kp.mk hW2
       clear hW2))
  obtain ⟨⟨⟨m0, m1, m2, m3, m4, m5, m6⟩, g0, g1, g2, g3, g4, g5, g6⟩, k0, k1, k2⟩ := H2.out.facts
  rw [HNO.out] at m3
  go_wp2_with fail
  refine (HW3 _).mono ?_
  rintro r w3 ⟨rfl, hb⟩
  have H3 : Kp (RM p Z e s m A C R M w n w3) := ⟨H2.out.keep hb⟩
  clear hb H2 HW3
  clear m0 m1 m2 m3 m4 m5 m6 g0 g1 g2 g3 g4 g5 g6 k0 k1 k2
  obtain ⟨⟨⟨m0, m1, m2, m3, m4, m5, m6⟩, g0, g1, g2, g3, g4, g5, g6⟩, k0, k1, k2⟩ := H3.out.facts
  go_upto_region 7 with fail
  have H4 := Kp.mk (H3.out.set ⟨true, n.e, n.s, n.m, n.first, n.waits, n.urgent⟩ 3 (.bool true) rfl)
  clear H3
  clear m0 m1 m2 m3 m4 m5 m6 g0 g1 g2 g3 g4 g5 g6 k0 k1 k2
  revert H4
  generalize World.setCell _ _ _ = W4
  intro H4
  obtain ⟨⟨⟨m0, m1, m2, m3, m4, m5, m6⟩, g0, g1, g2, g3, g4, g5, g6⟩, k0, k1, k2⟩ := H4.out.facts
  go_upto_region 8 with fail
  have H5 := Kp.mk (((H4.out.set ⟨true, e, n.s, n.m, n.first, n.waits, n.urgent⟩ 0 (.int .u32 e) rfl).set ⟨true, e, s, n.m, n.first, n.waits, n.urgent⟩ 1 (.int .u32 s) rfl).set ⟨true, e, s, m, n.first, n.waits, n.urgent⟩ 2 (.int .i64 m) rfl)
  clear H4
  clear m0 m1 m2 m3 m4 m5 m6 g0 g1 g2 g3 g4 g5 g6 k0 k1 k2
  revert H5
  generalize World.setCell _ _ _ = W5
  intro H5
  obtain ⟨⟨⟨m0, m1, m2, m3, m4, m5, m6⟩, g0, g1, g2, g3, g4, g5, g6⟩, k0, k1, k2⟩ := H5.out.facts
  go_upto_region 9 with fail
  have H6 := Kp.mk (H5.out.set ⟨true, e, s, m, n.first, true, n.urgent⟩ 4 (.bool true) rfl)
  clear H5
  clear m0 m1 m2 m3 m4 m5 m6 g0 g1 g2 g3 g4 g5 g6 k0 k1 k2
  revert H6
  generalize World.setCell _ _ _ = W6
  intro H6
  obtain ⟨⟨⟨m0, m1, m2, m3, m4, m5, m6⟩, g0, g1, g2, g3, g4, g5, g6⟩, k0, k1, k2⟩ := H6.out.facts
  have HXM : Kp (RM p Z e s m A C R M w x W6) := ⟨by rw [HXC.out]; exact H6.out⟩
  clear H6
  clear m0 m1 m2 m3 m4 m5 m6 g0 g1 g2 g3 g4 g5 g6 k0 k1 k2
  go_wp2_with (first
    | (refine wpList_load_row rfl 37 (.tmp 12) rfl M rfl 37 (nrc x).toArray (0, 0) _ HXM.out.mb Try.underlying37 rfl (info37s x) ?_)
    | (refine wpList_store_mid rfl 37 (.tmp 57) (.tmp 55) rfl A (4 + k * 7) (nrc x).toArray rfl rfl (Blk.there HXM.out.rn.a (by rw [prc_len]; have := HK8.out; show 4 + k * 7 + 7 ≤ 60; omega)) (info37s x) (all_oneCell_toArray (nrc_one x)) ?_
       refine wpl_world (RN (p.put k x) Z e s m A C R w) (HXM.out.rn.put HK8.out (by have := HE.out; omega) HAR.out (by have := HE.out; omega) x) ?_
       intro W9 hW9
       have HRG : Kp (Blk W9 A (p.put k x).robj ∧ Blk W9 R (.cells (prc Z).toArray 40) ∧ Below w.heap.size w W9) := ⟨hW9.a, hW9.r, hW9.hb⟩
       clear hW9))
  refine wp_region_held_drew (S := fun w' => Blk w' A ((p.put k x)).robj ∧ ∃ qz : PS, Blk w' R (.cells (prc qz).toArray 40)) (by kernel_rfl) (⟨HRG.out.1.draw, _, HRG.out.2.1.draw⟩) (fun hH => ?_)
  refine wpAnyH_take (i := 0) (oi := { dst := some 58, op := Go.Op.load 40 (Go.Operand.tmp 5), type := 40, pos := "ref.go:55", after := #[{ on := 1, ground := Go.Ground.gcOnly Go.Departure.lateStores }], guard := none }) (v := .agg (prc (p.put k x)).toArray) rfl (by kernel_rfl) (by kernel_rfl) (by kernel_rfl) (fun _ _ _ h => h) (Or.inl ⟨by rfl, fun w hS => exec_load_mid (cs := prc (p.put k x)) rfl rfl (hS.1.range (o := 0) rfl) Try.underlying40 rfl (by kernel_rfl)⟩) hH ?_
  simp only [Act.put, List.setIfInBounds_toArray, List.set_cons_zero, List.set_cons_succ]
  refine wpAnyH_take (i := 1) (oi := { dst := some 10, op := Go.Op.assign (Go.Operand.const (Go.Value.int Go.IntKind.i64 0)), type := 3, pos := "ref.go:55", after := #[{ on := 0, ground := Go.Ground.textOnly Go.Departure.lateStores }], guard := none }) (v := .int .i64 0) rfl (by kernel_rfl) (by kernel_rfl) (by kernel_rfl) (fun _ _ _ h => h) (Or.inl ⟨by rfl, fun w hS => by go_simp⟩) hH ?_
  simp only [Act.put, List.setIfInBounds_toArray, List.set_cons_zero, List.set_cons_succ]
  refine wpAnyH_ready (rs := [2]) (by kernel_rfl) (by simp) ?_
  refine AllReadyH.cons (o := { dst := none, op := Go.Op.store 40 (Go.Operand.tmp 11) (Go.Operand.tmp 58), type := 0, pos := "ref.go:55", after := #[{ on := 0, ground := Go.Ground.data }, { on := 1, ground := Go.Ground.chain }, { on := 0, ground := Go.Ground.phase }, { on := 1, ground := Go.Ground.phase }], guard := none }) rfl (fun K hK => ?_) AllReadyH.nil
  obtain ⟨hHA, qz, hHR⟩ := hH
  refine wp_store_row 40 (.tmp 11) (.tmp 58) rfl R (prc (p.put k x)).toArray rfl rfl 40 _ hHR (info40s _) rfl (all_oneCell_toArray (prc_one _)) ?_
  have hH := hHA
  have HFI : Kp (Blk ((W9.drew).setRow R (prc (p.put k x)).toArray) R (.cells (prc (p.put k x)).toArray 40) ∧ Below w.heap.size w ((W9.drew).setRow R (prc (p.put k x)).toArray)) := ⟨Blk.setRow hHR _, Below.row (Below.drew HRG.out.2.2) HLR.out _⟩
  refine hK.out _ _ (⟨(setRow_other _ _ _ _ (fun e => HAR.out e)).trans hHA, _, HFI.out.1⟩) (fun hHn => ?_)
  clear hK K hH
  have hH := hHn
  clear hHn
  try simp only [Act.put, List.setIfInBounds_toArray, List.set_cons_zero, List.set_cons_succ]
  clear hH
  refine wpAnyH_done (by kernel_rfl) ?_ _
  clear HRG
  revert HFI
  generalize World.setRow _ _ _ = w5
  intro HFI
  go_wp2_with fail
  exact bodyPost_ret (v := .tuple #[.int .i64 0, .agg (prc (p.put k x)).toArray]) (ret11 rfl rfl HFI.out.1) rfl (HP.out _ _ rfl HFI.out.2)
theorem rnote_any (p : PS) (now d e s m : Int) (u : Bool) (w : World) : Calls Try.prog 11 #[.agg (prc p).toArray, .int .i64 now, .int .i64 d, keyV e s m, .bool u] w (RNotePost p now d e s m u w) := by
  cases hB : noteB now d e s m with
  | false => exact rnote_no p now d e s m u w hB
  | true =>
    have hd : 0 ≤ d ∧ d < 8 := by
      unfold noteB at hB
      simp at hB
      exact hB.1
    obtain ⟨k, rfl⟩ : ∃ k : Nat, d = k := ⟨d.toNat, by omega⟩
    cases hno : (p.all k).noted with
    | false => cases u with
      | true => exact rnote_a1 p now e s m k w hB hno
      | false => exact rnote_a0 p now e s m k w hB hno
    | true => cases hne : nwB e s (p.all k).e (p.all k).s with
      | true => cases u with
        | true => exact rnote_b1 p now e s m k w hB hno hne
        | false => exact rnote_b0 p now e s m k w hB hno hne
      | false => cases u with
        | true => exact rnote_c1 p now e s m k w hB hno hne
        | false => exact rnote_c0 p now e s m k w hB hno hne
end Go.Proofs.Ytfnjfoconklhiaa
