/-
  The document's GetUpdate.
-/
import Derived.Test.YtgabjmmmiogfjaaDoorFuV
import Derived.Test.YtgabjmmmiogfjaaDoorFuS
import Derived.Deep.Cut
namespace Go.Proofs.YtgabjmmmiogfjaaDoor
open Go.RowKit

theorem wpList_load_midG {P : Program} {ops : Array Oper} {rest : List Oper} {op : Oper} {a : Act} {w : World} {Q : Exit → Act → World → Prop} (hw : Region.wanted op (yielded ops a.tmps) = true) (ty : TypeId) (x : Operand) (ho : op.op = .load ty x)
    (b o : Nat) (hx : a.eval x = .pointer (some ⟨b, o, none⟩)) (cs : List Value) (d : TypeDesc) (hc : w.rangeAt b o cs)
    (hu : P.underlying ty = some d) (hd : d.isRow = true) (hi : (P.info? ty).map (·.size) = some cs.length)
    (h : wpList P ops Q rest (a.put op.dst (.agg cs.toArray)) w) : wpList P ops Q (op :: rest) a w := by
  unfold wpList
  rw [if_pos hw]
  exact .inl (wp_load_mid ty x ho b o hx cs d hc hu hd hi h)
theorem num_big {B : List Int} {a : Nat} {e : Int} {k : Nat} (h : 0 < numOf (rawP B a e k)) : rawE B a e k = 0 := by
  by_cases hc : e = 0 ∧ k ≤ B.length - a
  · unfold rawE
    rw [if_neg (by omega)]
    exact hc.1
  · unfold rawP at h
    rw [if_neg hc] at h
    exact absurd h (by decide)
/-- While there is no error, as many entries are looked for as are told. -/
theorem uK_live {B : List Int} {i : Nat} (hb : Bytes B) (h : (uT B i).1.2 = 0) : uN B = (uK B : Int) := by
  have h0 : (us3 B).2 = 0 := by
    false_or_by_contra
    rename_i hne
    have := uT_stuck (B := B) (i := 0) hne i
    rw [Nat.zero_add, h] at this
    exact hne this.symm
  have hn := num1 hb (us1 B).1 (us1 B).2
  rw [show numOf (rawP B (us1 B).1 (us1 B).2 1) = uN B from rfl] at hn
  have h8 : ¬ 8 < uN B := fun h8 => by
    have he : (us2 B).2 = 0 := num_big (show 0 < numOf (rawP B (us1 B).1 (us1 B).2 1) by rw [show numOf (rawP B (us1 B).1 (us1 B).2 1) = uN B from rfl]; omega)
    have : (us3 B).2 = failE (us2 B).2 8 := by unfold us3; simp only; rw [if_pos h8]
    rw [this, failE_yes he (by decide)] at h0
    exact absurd h0 (by decide)
  unfold uK
  rw [if_neg h8]
  omega
/-- The document's GetUpdate, on its way. -/
structure RG (w : World) (M R I H : Nat) (B : List Int) (full : Bool) (v : Value) (xs : List E3) (s : Nat × Int) (W : World) : Prop where
  i : RefIs W M I B s.1 s.2
  r : Blk W R (.cells #[.bool false, .slice none 0 0] 52)
  h : Blk W H (.cells #[.bool full, v] 52)
  es : EOs W 105 40 (H + 1) v xs
  below : Below R w W
  mr : M ≤ R
  ri : R < I
  ih : I < H
theorem RG.turn {w W W' : World} {M R I H : Nat} {B : List Int} {full : Bool} {v : Value} {xs : List E3} {s s' : Nat × Int} (h : RG w M R I H B full v xs s W) (h1 : RefIs W' M I B s'.1 s'.2) (ht : ∃ o, Turn I o W W') : RG w M R I H B full v xs s' W' := by
  obtain ⟨o, ho⟩ := ht
  have := h.ri
  have := h.ih
  exact ⟨h1, ho.keep h.r (by omega), ho.keep h.h (by omega), h.es.turn ho (by omega), h.below.trans (ho.below (by omega) (by have := h.r.lt; omega)), h.mr, h.ri, h.ih⟩
theorem RG.app {w W w3 : World} {M R I H : Nat} {B : List Int} {full : Bool} {v v' : Value} {xs : List E3} {z : E3} {s : Nat × Int} (h : RG w M R I H B full v xs s W) (hz : EOw W 40 (H + 1) z)
    (ho : w3.ownsRow (H + 1) 105 22 v' (xs.length + 1) (ecs xs ++ ec z.1)) (hg : (W.alloc (.cells (ec z.1).toArray 105)).grownBy w3 v.ownBlock) : RG w M R I H B full v' (xs ++ [z]) s (w3.setCell ⟨H, 1, none⟩ v') := by
  have hri := h.ri
  have hih := h.ih
  have hmr := h.mr
  have hl := h.h.lt
  have hm' : Below W.heap.size W (W.alloc (.cells (ec z.1).toArray 105)) := Go.Proofs.YtgabjmmmiogfjaaDoor.more (Below.refl _ _) _
  have hes := h.es.keep hm'
  have hb : Below (H + 1) W w3 := below_row_grown (hm'.mono (by omega)) (by simp; omega) hes.v hg
  have hh := h.h.upto hb (by omega)
  have hT : Turn H (.cells #[.bool full, v'] 52) w3 (w3.setCell ⟨H, 1, none⟩ v') := ((Turn.same hh).set 1 v').as rfl
  have hr := h.r.upto hb (by omega)
  exact ⟨(h.i.upto hb (by omega)).turn hT (by omega) (by omega), hT.keep hr (by omega), hT.blk, (hes.app (hz.keep hm') (by decide) ho hg).turn hT (by omega), (h.below.trans (hb.mono (by omega))).trans (hT.below (by omega) (by have := hr.lt; omega)), h.mr, hri, hih⟩
/-- An entry on its way. -/
structure RE (w : World) (M I T : Nat) (B : List Int) (x : EV) (s : Nat × Int) (W : World) : Prop where
  i : RefIs W M I B s.1 s.2
  k : Blk W T (.cells (ec x).toArray 105)
  t : ∃ o, Turn I o w W
  mi : M ≤ I
  iw : I < w.heap.size
  wt : w.heap.size ≤ T
  xl : x.lf.length = 16
theorem RE.read {w W W' : World} {M I T : Nat} {B : List Int} {x : EV} {s s' : Nat × Int} (h : RE w M I T B x s W) (hs : RefStep M I B s'.1 s'.2 W W') : RE w M I T B x s' W' := by
  have h1 := h.iw
  have h2 := h.wt
  obtain ⟨o, ho⟩ := h.t
  obtain ⟨o2, ho2⟩ := hs.turn
  exact ⟨hs.is, ho2.keep h.k (by omega), ⟨o2, ho.trans ho2⟩, h.mi, h1, h2, h.xl⟩
theorem RE.put {w W W' : World} {M I T : Nat} {B : List Int} {x x' : EV} {s : Nat × Int} (h : RE w M I T B x s W) (hT : Turn T (.cells (ec x').toArray 105) W W') (hl : x'.lf.length = 16) : RE w M I T B x' s W' := by
  have h1 := h.iw
  have h2 := h.wt
  have h3 := h.mi
  obtain ⟨o, ho⟩ := h.t
  exact ⟨h.i.turn hT (by omega) (by omega), hT.blk, ⟨o, ho.upto (hT.below (B := w.heap.size) h2 ho.size) (Nat.le_refl _) h1⟩, h3, h1, h2, hl⟩
theorem ec_set0 (x : EV) (n : Int) : (ec x).toArray.setIfInBounds 0 (.int .i64 n) = (ec { x with d := n }).toArray := by simp [ec]
theorem RE.below {w W W' : World} {M I T : Nat} {B : List Int} {x : EV} {s : Nat × Int} (h : RE w M I T B x s W) (hb : Below W.heap.size W W') : RE w M I T B x s W' := by
  obtain ⟨o, ho⟩ := h.t
  exact ⟨h.i.keep hb, h.k.keep hb, ⟨o, ho.more hb⟩, h.mi, h.iw, h.wt, h.xl⟩
theorem info105z0 : (Tryd.prog.info? 105).map (fun i => (i.zero, i.size)) = some (some (.agg (ec x0).toArray), 22) := by kernel_rfl
set_option maxRecDepth 100000 in
set_option maxHeartbeats 64000000 in
theorem rgetUpdate_any (M : Nat) (v : Value) (B : List Int) (w : World) (h : HoldsB w M v B) (hM : M ≤ w.heap.size) : Calls Tryd.prog 25 #[v] w (UGPost B 105 40 w) := by
  have HBB := Kp.mk h.bytes
  have H0 := Kp.mk h
  obtain ⟨va, vn, vc, rfl, -⟩ := h.slice
  obtain ⟨i0, hi0, hz0, hz1, hz2⟩ := info_parts info105z
  obtain ⟨R, hR⟩ : ∃ R, R = w.heap.size := ⟨_, rfl⟩
  have HRe := Kp.mk hR
  have MR : Kp (M ≤ R) := ⟨by omega⟩
  obtain ⟨I, hI⟩ : ∃ I, I = w.heap.size + 1 := ⟨_, rfl⟩
  have hRI : R < I := by omega
  clear h
  go_enter Tryd.func25, Tryd.ntmps25
  go_wp2_with fail
  rw [← hI, ← hR]
  have D0 : Kp (RefIs ((w.alloc (.cells #[.bool false, .slice none 0 0] 52)).alloc (.cells #[.slice va vn vc, .int .i64 0, .int .i64 0] 92)) M I B 0 0 ∧ Blk ((w.alloc (.cells #[.bool false, .slice none 0 0] 52)).alloc (.cells #[.slice va vn vc, .int .i64 0, .int .i64 0] 92)) R (.cells #[.bool false, .slice none 0 0] 52) ∧ Below R w ((w.alloc (.cells #[.bool false, .slice none 0 0] 52)).alloc (.cells #[.slice va vn vc, .int .i64 0, .int .i64 0] 92)) ∧ R < I) :=
    ⟨⟨by omega, ⟨_, (H0.out.alloc _).alloc _, Blk.newAt _ (by simp [hI])⟩, by omega⟩, (Blk.newAt _ hR).old _, by rw [hR]; exact more (more (Below.refl _ _) _) _, hRI⟩
  clear hR hI H0 hRI hM
  generalize (w.alloc (.cells #[.bool false, .slice none 0 0] 52)).alloc (.cells #[.slice va vn vc, .int .i64 0, .int .i64 0] 92) = w0 at *
  refine (num_any M I B 0 0 1 _ D0.out.1 (by decide)).mono ?_
  rintro r w2 ⟨rfl, s1⟩
  rw [show numOf (rawP B 0 0 1) = uFull B from rfl]
  have E1 : Kp (RefIs w2 M I B (stp B 1 (0, 0)).1 (stp B 1 (0, 0)).2 ∧ Blk w2 R (.cells #[.bool false, .slice none 0 0] 52) ∧ Below R w w2 ∧ R < I) := ⟨s1.is, s1.keep D0.out.2.1 (by have := D0.out.2.2.2; omega), by obtain ⟨_, o, ho⟩ := s1; exact D0.out.2.2.1.trans (ho.below (by have := D0.out.2.2.2; omega) (by have := D0.out.2.1.lt; omega)), D0.out.2.2.2⟩
  have hf0 : 0 ≤ uFull B ∧ uFull B ≤ 255 := num1 HBB.out 0 0
  have HU1 : Kp (us1 B = ((stp B 1 (0, 0)).1, if 1 < uFull B then failE (stp B 1 (0, 0)).2 10 else (stp B 1 (0, 0)).2)) := ⟨rfl⟩
  have HB1 : Kp (1 < uFull B → (stp B 1 (0, 0)).2 = 0) := ⟨fun h => num_big (show 0 < numOf (rawP B 0 0 1) by rw [show numOf (rawP B 0 0 1) = uFull B from rfl]; omega)⟩
  obtain ⟨fu, hfu⟩ : ∃ fu, fu = uFull B := ⟨_, rfl⟩
  have HFU := Kp.mk hfu
  rw [← hfu] at hf0 HU1 HB1 ⊢
  clear s1 D0 hfu
  obtain ⟨fl, hfl⟩ : ∃ fl, fl = (fu == 1) := ⟨_, rfl⟩
  have HFL : Kp (fl = (uFull B == 1)) := ⟨by rw [hfl, HFU.out]⟩
  have hq : (fu == 1) = fl := hfl.symm
  clear hfl
  have hcell1 : w2.cell? ⟨I, 2, none⟩ = some (.int .i64 (stp B 1 (0, 0)).2) ∧ w2.frozen? ⟨I, 2, none⟩ = false ∧ I < w2.heap.size := by
    obtain ⟨_, ⟨u, _, hb⟩, _⟩ := E1.out.1
    exact ⟨hb.cell 2, hb.frozen 2, hb.lt⟩
  obtain ⟨c1, f1, l1⟩ := hcell1
  obtain ⟨e1, he1⟩ : ∃ e, e = (stp B 1 (0, 0)).2 := ⟨_, rfl⟩
  have HE1 := Kp.mk he1
  rw [← he1] at c1 HB1 HU1
  clear he1
  have hways : (e1 = 0 ∧ 1 < fu) ∨ (e1 = 0 ∧ ¬ 1 < fu) ∨ (e1 ≠ 0 ∧ ¬ 1 < fu) := by
    by_cases h1 : 1 < fu
    · exact .inl ⟨HB1.out h1, h1⟩
    · by_cases h2 : e1 = 0
      · exact .inr (.inl ⟨h2, h1⟩)
      · exact .inr (.inr ⟨h2, h1⟩)
  rcases hways with hw | hw | hw
  case' inl =>
    obtain ⟨h1, h2⟩ := hw
    subst h1
    have HU2 : Kp (us1 B = ((stp B 1 (0, 0)).1, 10)) := ⟨by rw [HU1.out, if_pos h2, failE_yes rfl (by decide)]⟩
    have HQ : Kp ((us2 B).2 ≠ 0) := ⟨by show (stp B 1 (us1 B)).2 ≠ 0; rw [stp_stuck (by rw [HU2.out]; exact (by decide : (10 : Int) ≠ 0)), HU2.out]; exact (by decide : (10 : Int) ≠ 0)⟩
    go_wp2_with fail
    have E2 : Kp (RefIs (w2.setCell ⟨I, 2, none⟩ (.int .i64 10)) M I B (us1 B).1 (us1 B).2 ∧ Blk (w2.setCell ⟨I, 2, none⟩ (.int .i64 10)) R (.cells #[.bool false, .slice none 0 0] 52) ∧ Below R w (w2.setCell ⟨I, 2, none⟩ (.int .i64 10)) ∧ R < I) := ⟨by rw [HU2.out]; exact (E1.out.1.fail 10).is, (E1.out.1.fail 10).keep E1.out.2.1 (by have := E1.out.2.2.2; omega), E1.out.2.2.1.setCell (p := ⟨I, 2, none⟩) (by have := E1.out.2.2.2; show R ≤ I; omega) _, E1.out.2.2.2⟩
    clear E1 HU1 HU2 HB1 HE1 h2 c1 f1 l1
    generalize w2.setCell ⟨I, 2, none⟩ (.int .i64 10) = w3 at *
  case' inr.inl =>
    obtain ⟨h1, h2⟩ := hw
    have HU2 : Kp (us1 B = stp B 1 (0, 0)) := ⟨by rw [HU1.out, if_neg h2, HE1.out]⟩
    subst h1
    have HQ : Kp True := ⟨trivial⟩
    go_wp2_with fail
    have E2 : Kp (RefIs w2 M I B (us1 B).1 (us1 B).2 ∧ Blk w2 R (.cells #[.bool false, .slice none 0 0] 52) ∧ Below R w w2 ∧ R < I) := ⟨by rw [HU2.out]; exact E1.out.1, E1.out.2.1, E1.out.2.2.1, E1.out.2.2.2⟩
    clear E1 HU1 HU2 HB1 HE1 h2 c1 f1 l1
    generalize w2 = w3 at *
  case' inr.inr =>
    obtain ⟨h1, h2⟩ := hw
    have HU2 : Kp (us1 B = stp B 1 (0, 0)) := ⟨by rw [HU1.out, if_neg h2, HE1.out]⟩
    have hE1 : (e1 == 0) = false := by simpa using h1
    have HQ : Kp ((us2 B).2 ≠ 0) := ⟨by show (stp B 1 (us1 B)).2 ≠ 0; rw [stp_stuck (by rw [HU2.out, ← HE1.out]; exact h1), HU2.out, ← HE1.out]; exact h1⟩
    go_wp2_with fail
    have E2 : Kp (RefIs w2 M I B (us1 B).1 (us1 B).2 ∧ Blk w2 R (.cells #[.bool false, .slice none 0 0] 52) ∧ Below R w w2 ∧ R < I) := ⟨by rw [HU2.out]; exact E1.out.1, E1.out.2.1, E1.out.2.2.1, E1.out.2.2.2⟩
    clear E1 HU1 HU2 HB1 HE1 h2 h1 hE1 c1 f1 l1
    generalize w2 = w3 at *
  all_goals
    refine (num_any M I B (us1 B).1 (us1 B).2 1 _ E2.out.1 (by decide)).mono ?_
    rintro r w4' ⟨rfl, s3⟩
    rw [show numOf (rawP B (us1 B).1 (us1 B).2 1) = uN B from rfl]
    have E3 : Kp (RefIs w4' M I B (us2 B).1 (us2 B).2 ∧ Blk w4' R (.cells #[.bool false, .slice none 0 0] 52) ∧ Below R w w4' ∧ R < I) := ⟨s3.is, s3.keep E2.out.2.1 (by have := E2.out.2.2.2; omega), by obtain ⟨_, o, ho⟩ := s3; exact E2.out.2.2.1.trans (ho.below (by have := E2.out.2.2.2; omega) (by have := E2.out.2.1.lt; omega)), E2.out.2.2.2⟩
    have hN : 0 ≤ uN B ∧ uN B ≤ 255 := num1 HBB.out (us1 B).1 (us1 B).2
    have HU3 : Kp (us3 B = ((us2 B).1, if 8 < uN B then failE (us2 B).2 8 else (us2 B).2)) := ⟨rfl⟩
    have HB3 : Kp (8 < uN B → (us2 B).2 = 0) := ⟨fun h => num_big (show 0 < numOf (rawP B (us1 B).1 (us1 B).2 1) by rw [show numOf (rawP B (us1 B).1 (us1 B).2 1) = uN B from rfl]; omega)⟩
    have HK8 : Kp (uK B ≤ 8) := ⟨by unfold uK; split <;> omega⟩
    obtain ⟨n, hn⟩ : ∃ n, n = uN B := ⟨_, rfl⟩
    have HNE : Kp (uN B = n) := ⟨hn.symm⟩
    rw [← hn] at hN HU3 HB3 ⊢
    have hwn : IntKind.i64.wrap n = n := IntWalk.i64_in _ (by omega)
    clear s3 E2 hn
    have hcell3 : w4'.cell? ⟨I, 2, none⟩ = some (.int .i64 (us2 B).2) ∧ w4'.frozen? ⟨I, 2, none⟩ = false ∧ I < w4'.heap.size := by
      obtain ⟨_, ⟨u, _, hb⟩, _⟩ := E3.out.1
      exact ⟨hb.cell 2, hb.frozen 2, hb.lt⟩
    obtain ⟨c1, f1, l1⟩ := hcell3
    obtain ⟨e3, he3⟩ : ∃ e, e = (us2 B).2 := ⟨_, rfl⟩
    have HE3 := Kp.mk he3
    rw [← he3] at c1 HB3 HU3
    clear he3
    by_cases h8 : 8 < n
    · have h1 := HB3.out h8
      subst h1
      have HU4 : Kp ((uT B 0).1 = ((us2 B).1, 8)) := ⟨by show us3 B = _; rw [HU3.out, if_pos h8, failE_yes rfl (by decide)]⟩
      have HDEAD : Kp ((uT B 0).1.2 ≠ 0) := ⟨by rw [HU4.out]; exact (by decide : (8 : Int) ≠ 0)⟩
      obtain ⟨H, hH⟩ : ∃ H, H = (w4'.setCell ⟨I, 2, none⟩ (.int .i64 8)).heap.size := ⟨_, rfl⟩
      have HHe := Kp.mk hH
      have D2 : Kp (RefIs (w4'.setCell ⟨I, 2, none⟩ (.int .i64 8)) M I B (uT B 0).1.1 (uT B 0).1.2 ∧ Blk (w4'.setCell ⟨I, 2, none⟩ (.int .i64 8)) R (.cells #[.bool false, .slice none 0 0] 52) ∧ Below R w (w4'.setCell ⟨I, 2, none⟩ (.int .i64 8)) ∧ R < I) := ⟨by rw [HU4.out]; exact (E3.out.1.fail 8).is, (E3.out.1.fail 8).keep E3.out.2.1 (by have := E3.out.2.2.2; omega), E3.out.2.2.1.setCell (p := ⟨I, 2, none⟩) (by have := E3.out.2.2.2; show R ≤ I; omega) _, E3.out.2.2.2⟩
      clear hH E3 HU3 HB3 HE3
      go_upto_region 8 with fail
      clear c1 f1 l1 h8 HU4
      revert D2 HHe
      generalize w4'.setCell ⟨I, 2, none⟩ (.int .i64 8) = w4
      intro HHe D2
      go_wp2_with (first
        | (refine wpList_store_row rfl 52 (.tmp 7) (.tmp 46) rfl w4.heap.size #[.bool fl, .slice none 0 0] rfl rfl 52 _ (Blk.newAt _ rfl) info52s rfl (u_one _ _ _ _) ?_; rw [World.setRow_alloc_new]; refine wpl_world (fun W => RG w M R I H B fl (.slice none 0 0) [] (uT B 0).1 W) ⟨D2.out.1.keep (more (Below.refl _ _) _), D2.out.2.1.old _, Blk.newAt _ HHe.out, ⟨World.ownsRow_nil _ _ _ _, fun z hz => by cases hz⟩, D2.out.2.2.1.alloc (by have := D2.out.2.1.lt; omega) _, MR.out, D2.out.2.2.2, by rw [HHe.out]; exact D2.out.1.lt⟩ ?_; rintro W4 hst; have S1 := Kp.mk hst; clear hst))
      rw [← HHe.out]
      clear D2
      go_loopw [8, 9] (fun lv ct wr => ∃ (i : Nat) (av : Option Addr) (nv cv : Nat) (xs : List E3), i ≤ uK B ∧ lv = .int .i64 (uT B i).2 ∧ ct = .int .i64 i ∧ Kp (RG w M R I H B fl (.slice av nv cv) xs (uT B i).1 wr ∧ UGood B i xs)) (fun _ ct _ => uK B - (intOf ct).toNat)
      case atStart => exact ⟨0, none, 0, 0, [], Nat.zero_le _, rfl, rfl, ⟨S1.out, rfl, fun j z hz => by simp at hz⟩⟩
      case round =>
        clear S1
        obtain ⟨i, av, nv, cv, xs, hi', rfl, rfl, HST⟩ := hrel
        have c2 : wr.cell? ⟨I, 2, none⟩ = some (.int .i64 (uT B i).1.2) := by
          obtain ⟨_, ⟨u, _, hb⟩, _⟩ := HST.out.1.i
          exact hb.cell 2
        by_cases he : (uT B i).1.2 = 0
        · exact absurd he (by have h9 := uT_stuck HDEAD.out i; rw [Nat.zero_add] at h9; rw [h9]; exact HDEAD.out)
        · have HEQ : Kp ((if 0 < rleft B (uT B i).1.1 (uT B i).1.2 then (10 : Int) else (uT B i).1.2) = uEnd B) := ⟨uEnd_stop hi' (.inr he)⟩
          have hue : uEnd B ≠ 0 := by
            rw [← HEQ.out]
            have : rleft B (uT B i).1.1 (uT B i).1.2 = 0 := by unfold rleft; rw [if_neg he]
            rw [this, if_neg (by omega)]
            exact he
          have hek : ((uT B i).1.2 == 0) = false := by simpa using he
          have he := hue
          clear hue
          by_cases hin : (i : Int) < n
          · go_wp2_with fail
            clear c2 hek
            refine (rend_any M I B _ _ wr HST.out.1.i).mono ?_
            rintro r w5 ⟨rfl, o5, h5⟩
            rw [HEQ.out]
            have S5 : Kp (Blk w5 R (.cells #[.bool false, .slice none 0 0] 52) ∧ Blk w5 H (.cells #[.bool fl, .slice av nv cv] 52) ∧ EOs w5 105 40 (H + 1) (.slice av nv cv) xs ∧ Below R w w5 ∧ R < H) := ⟨h5.keep HST.out.1.r (by have := HST.out.1.ri; omega), h5.keep HST.out.1.h (by have := HST.out.1.ih; omega), HST.out.1.es.turn h5 (by have := HST.out.1.ih; omega), HST.out.1.below.trans (h5.below (by have := HST.out.1.ri; omega) (by have := HST.out.1.r.lt; omega)), by have := HST.out.1.ri; have := HST.out.1.ih; omega⟩
            clear h5 HST
            have HGE : Kp (uEnd B ≠ 0) := ⟨he⟩
            have hne : (uEnd B != 0) = true := by simpa using he
            obtain ⟨E, hE⟩ : ∃ E, E = uEnd B := ⟨_, rfl⟩
            have HE := Kp.mk hE
            rw [← hE] at hne ⊢
            clear he hE
            go_wp2_with (refine wpList_store_row rfl 52 (.tmp 2) (.tmp 127) rfl R #[.bool false, .slice none 0 0] rfl rfl 52 _ S5.out.1 info52s rfl (u_one _ _ _ _) ?_; refine wpl_world (w := w5.setRow R #[.bool false, .slice none 0 0]) (fun W => Blk W R (.cells #[.bool false, .slice none 0 0] 52) ∧ Below R w W) ⟨(Turn.ofRow S5.out.1 _).blk, S5.out.2.2.2.1.trans ((Turn.ofRow S5.out.1 _).below (Nat.le_refl _) (by have := S5.out.1.lt; omega))⟩ ?_; rintro W6 h6; have S6 := Kp.mk h6; clear h6)
            exact bodyPost_ret (results_row_tmpU rfl _ _ R 52 _ _ _ (.int .i64 E) rfl rfl S6.out.1 Tryd.underlying52 rfl info52s) rfl ⟨none, 0, 0, [], by rw [decide_eq_false HGE.out, HE.out]; rfl, ⟨World.ownsRow_nil _ _ _ _, fun z hz => by cases hz⟩, by rw [if_neg HGE.out], by rw [← HRe.out]; exact S6.out.2⟩
          · go_wp2_with fail
            clear c2 hek
            refine (rend_any M I B _ _ wr HST.out.1.i).mono ?_
            rintro r w5 ⟨rfl, o5, h5⟩
            rw [HEQ.out]
            have S5 : Kp (Blk w5 R (.cells #[.bool false, .slice none 0 0] 52) ∧ Blk w5 H (.cells #[.bool fl, .slice av nv cv] 52) ∧ EOs w5 105 40 (H + 1) (.slice av nv cv) xs ∧ Below R w w5 ∧ R < H) := ⟨h5.keep HST.out.1.r (by have := HST.out.1.ri; omega), h5.keep HST.out.1.h (by have := HST.out.1.ih; omega), HST.out.1.es.turn h5 (by have := HST.out.1.ih; omega), HST.out.1.below.trans (h5.below (by have := HST.out.1.ri; omega) (by have := HST.out.1.r.lt; omega)), by have := HST.out.1.ri; have := HST.out.1.ih; omega⟩
            clear h5 HST
            have HGE : Kp (uEnd B ≠ 0) := ⟨he⟩
            have hne : (uEnd B != 0) = true := by simpa using he
            obtain ⟨E, hE⟩ : ∃ E, E = uEnd B := ⟨_, rfl⟩
            have HE := Kp.mk hE
            rw [← hE] at hne ⊢
            clear he hE
            go_wp2_with (refine wpList_store_row rfl 52 (.tmp 2) (.tmp 127) rfl R #[.bool false, .slice none 0 0] rfl rfl 52 _ S5.out.1 info52s rfl (u_one _ _ _ _) ?_; refine wpl_world (w := w5.setRow R #[.bool false, .slice none 0 0]) (fun W => Blk W R (.cells #[.bool false, .slice none 0 0] 52) ∧ Below R w W) ⟨(Turn.ofRow S5.out.1 _).blk, S5.out.2.2.2.1.trans ((Turn.ofRow S5.out.1 _).below (Nat.le_refl _) (by have := S5.out.1.lt; omega))⟩ ?_; rintro W6 h6; have S6 := Kp.mk h6; clear h6)
            exact bodyPost_ret (results_row_tmpU rfl _ _ R 52 _ _ _ (.int .i64 E) rfl rfl S6.out.1 Tryd.underlying52 rfl info52s) rfl ⟨none, 0, 0, [], by rw [decide_eq_false HGE.out, HE.out]; rfl, ⟨World.ownsRow_nil _ _ _ _, fun z hz => by cases hz⟩, by rw [if_neg HGE.out], by rw [← HRe.out]; exact S6.out.2⟩
    · have HU4 : Kp ((uT B 0).1 = us2 B) := ⟨by show us3 B = _; rw [HU3.out, if_neg h8, HE3.out]⟩
      obtain ⟨H, hH⟩ : ∃ H, H = w4'.heap.size := ⟨_, rfl⟩
      have HHe := Kp.mk hH
      have D2 : Kp (RefIs w4' M I B (uT B 0).1.1 (uT B 0).1.2 ∧ Blk w4' R (.cells #[.bool false, .slice none 0 0] 52) ∧ Below R w w4' ∧ R < I) := ⟨by rw [HU4.out]; exact E3.out.1, E3.out.2.1, E3.out.2.2.1, E3.out.2.2.2⟩
      clear hH
      by_cases h0 : e3 = 0
      · first
          | (exact absurd (HE3.out.symm.trans h0) HQ.out)
          | (subst h0
             clear E3 HU3 HB3 HE3 HQ
             go_upto_region 8 with fail
             clear c1 f1 l1 h8 HU4
             generalize w4' = w4 at *
             go_wp2_with (first
               | (refine wpList_store_row rfl 52 (.tmp 7) (.tmp 46) rfl w4.heap.size #[.bool fl, .slice none 0 0] rfl rfl 52 _ (Blk.newAt _ rfl) info52s rfl (u_one _ _ _ _) ?_; rw [World.setRow_alloc_new]; refine wpl_world (fun W => RG w M R I H B fl (.slice none 0 0) [] (uT B 0).1 W) ⟨D2.out.1.keep (more (Below.refl _ _) _), D2.out.2.1.old _, Blk.newAt _ HHe.out, ⟨World.ownsRow_nil _ _ _ _, fun z hz => by cases hz⟩, D2.out.2.2.1.alloc (by have := D2.out.2.1.lt; omega) _, MR.out, D2.out.2.2.2, by rw [HHe.out]; exact D2.out.1.lt⟩ ?_; rintro W4 hst; have S1 := Kp.mk hst; clear hst))
             rw [← HHe.out]
             clear D2
             go_loopw [8, 9] (fun lv ct wr => ∃ (i : Nat) (av : Option Addr) (nv cv : Nat) (xs : List E3), i ≤ uK B ∧ lv = .int .i64 (uT B i).2 ∧ ct = .int .i64 i ∧ Kp (RG w M R I H B fl (.slice av nv cv) xs (uT B i).1 wr ∧ UGood B i xs)) (fun _ ct _ => uK B - (intOf ct).toNat)
             case atStart => exact ⟨0, none, 0, 0, [], Nat.zero_le _, rfl, rfl, ⟨S1.out, rfl, fun j z hz => by simp at hz⟩⟩
             case round =>
               clear S1
               obtain ⟨i, av, nv, cv, xs, hi', rfl, rfl, HST⟩ := hrel
               have c2 : wr.cell? ⟨I, 2, none⟩ = some (.int .i64 (uT B i).1.2) := by
                 obtain ⟨_, ⟨u, _, hb⟩, _⟩ := HST.out.1.i
                 exact hb.cell 2
               by_cases he : (uT B i).1.2 = 0
               · have hNk := uK_live HBB.out he
                 rw [HNE.out] at hNk
                 by_cases hlt : i < uK B
                 · have hin : (i : Int) < n := by omega
                   have hek : ((uT B i).1.2 == 0) = true := by simpa using he
                   obtain ⟨s, hs⟩ : ∃ s, s = (uT B i).1 := ⟨_, rfl⟩
                   obtain ⟨last, hlast⟩ : ∃ l, l = (uT B i).2 := ⟨_, rfl⟩
                   have HSI : Kp (s = (uT B i).1 ∧ last = (uT B i).2) := ⟨hs, hlast⟩
                   rw [← hs] at HST c2 hek
                   rw [← hlast]
                   clear hs hlast hNk he
                   obtain ⟨T, hT⟩ : ∃ T, T = wr.heap.size := ⟨_, rfl⟩
                   have HTe := Kp.mk hT
                   have LH : Kp (H + 1 ≤ T) := ⟨by rw [hT]; exact HST.out.1.h.lt⟩
                   have G0 : Kp (RE wr M I T B x0 s (wr.alloc (.cells (ec x0).toArray 105))) := ⟨⟨HST.out.1.i.keep (more (Below.refl _ _) _), Blk.newAt _ hT, (RefStep.below HST.out.1.i (more (Below.refl _ _) _)).turn, by have := HST.out.1.mr; have := HST.out.1.ri; omega, HST.out.1.i.lt, by omega, rfl⟩⟩
                   have hz105 := info105z0
                   clear hT
                   go_wp2_with (refine wpList_alloc_row rfl 105 rfl (ec x0).toArray 22 hz105 ?_)
                   rw [← HTe.out]
                   revert G0
                   generalize wr.alloc (.cells (ec x0).toArray 105) = w0
                   intro G0
                   clear hz105 c2
                   refine (num_any M I B s.1 s.2 1 w0 G0.out.i (by decide)).mono ?_
                   rintro r w1 ⟨rfl, q1⟩
                   rw [show numOf (rawP B s.1 s.2 1) = nD B s from rfl]
                   have GR1 : Kp (RE wr M I T B x0 (gs1 B s) w1) := ⟨G0.out.read q1⟩
                   obtain ⟨y1, hy1⟩ : ∃ y, y = nD B s := ⟨_, rfl⟩
                   have HY1 := Kp.mk hy1
                   have hr1 : 0 ≤ y1 ∧ y1 ≤ 255 := by rw [hy1]; exact num1 HBB.out _ _
                   have HR1 := Kp.mk hr1
                   rw [← hy1]
                   have kw1 : IntKind.i64.wrap y1 = y1 := IntWalk.i64_in _ (by omega)
                   have cc1 : w1.cell? ⟨T, 0, none⟩ = some (.int .i64 0) := (GR1.out.k.cell 0).trans (by rw [List.getElem?_toArray]; rfl)
                   have ff1 := GR1.out.k.frozen 0
                   have G1 : Kp (RE wr M I T B ⟨y1, 0, 0, 0, fill 16 [], none, 0, 0, none, 0, 0⟩ (gs1 B s) (w1.setCell ⟨T, 0, none⟩ (.int .i64 y1))) := ⟨GR1.out.put (by have h9 := (Turn.same GR1.out.k).set 0 (.int .i64 y1); rw [ec_set0] at h9; exact h9) (by exact GR1.out.xl)⟩
                   clear q1 hy1 G0
                   go_wp2_with fail
                   revert G1
                   generalize w1.setCell ⟨T, 0, none⟩ (.int .i64 y1) = v1
                   intro G1
                   clear cc1 ff1 GR1 kw1 hr1
                   refine (num_any M I B (gs1 B s).1 (gs1 B s).2 4 v1 G1.out.i (by decide)).mono ?_
                   rintro r w2 ⟨rfl, q2⟩
                   rw [show numOf (rawP B (gs1 B s).1 (gs1 B s).2 4) = nE B s from rfl]
                   have GR2 : Kp (RE wr M I T B ⟨y1, 0, 0, 0, fill 16 [], none, 0, 0, none, 0, 0⟩ (gs2 B s) w2) := ⟨G1.out.read q2⟩
                   obtain ⟨y2, hy2⟩ : ∃ y, y = nE B s := ⟨_, rfl⟩
                   have HY2 := Kp.mk hy2
                   have hr2 : 0 ≤ y2 ∧ y2 ≤ 4294967295 := by rw [hy2]; exact num4 (rawP_len _ _ _ _) (rawP_bytes HBB.out _ _ _)
                   have HR2 := Kp.mk hr2
                   rw [← hy2]
                   have kw2 : IntKind.u32.wrap y2 = y2 := by simp [IntKind.wrap, IntKind.bits, IntKind.signed]; omega
                   have cc2 : w2.cell? ⟨T, 1, none⟩ = some (.int .u32 0) := (GR2.out.k.cell 1).trans (by rw [List.getElem?_toArray]; rfl)
                   have ff2 := GR2.out.k.frozen 1
                   have G2 : Kp (RE wr M I T B ⟨y1, y2, 0, 0, fill 16 [], none, 0, 0, none, 0, 0⟩ (gs2 B s) (w2.setCell ⟨T, 1, none⟩ (.int .u32 y2))) := ⟨GR2.out.put (by have h9 := (Turn.same GR2.out.k).set 1 (.int .u32 y2); rw [ec_set1] at h9; exact h9) (by exact GR2.out.xl)⟩
                   clear q2 hy2 G1
                   go_wp2_with fail
                   revert G2
                   generalize w2.setCell ⟨T, 1, none⟩ (.int .u32 y2) = v2
                   intro G2
                   clear cc2 ff2 GR2 kw2 hr2
                   refine (num_any M I B (gs2 B s).1 (gs2 B s).2 1 v2 G2.out.i (by decide)).mono ?_
                   rintro r w3 ⟨rfl, q3⟩
                   rw [show numOf (rawP B (gs2 B s).1 (gs2 B s).2 1) = nS B s from rfl]
                   have GR3 : Kp (RE wr M I T B ⟨y1, y2, 0, 0, fill 16 [], none, 0, 0, none, 0, 0⟩ (gs3 B s) w3) := ⟨G2.out.read q3⟩
                   obtain ⟨y3, hy3⟩ : ∃ y, y = nS B s := ⟨_, rfl⟩
                   have HY3 := Kp.mk hy3
                   have hr3 : 0 ≤ y3 ∧ y3 ≤ 255 := by rw [hy3]; exact num1 HBB.out _ _
                   have HR3 := Kp.mk hr3
                   rw [← hy3]
                   have kw3 : IntKind.u32.wrap y3 = y3 := by simp [IntKind.wrap, IntKind.bits, IntKind.signed]; omega
                   have cc3 : w3.cell? ⟨T, 2, none⟩ = some (.int .u32 0) := (GR3.out.k.cell 2).trans (by rw [List.getElem?_toArray]; rfl)
                   have ff3 := GR3.out.k.frozen 2
                   have G3 : Kp (RE wr M I T B ⟨y1, y2, y3, 0, fill 16 [], none, 0, 0, none, 0, 0⟩ (gs3 B s) (w3.setCell ⟨T, 2, none⟩ (.int .u32 y3))) := ⟨GR3.out.put (by have h9 := (Turn.same GR3.out.k).set 2 (.int .u32 y3); rw [ec_set2] at h9; exact h9) (by exact GR3.out.xl)⟩
                   clear q3 hy3 G2
                   go_wp2_with fail
                   revert G3
                   generalize w3.setCell ⟨T, 2, none⟩ (.int .u32 y3) = v3
                   intro G3
                   clear cc3 ff3 GR3 kw3 hr3
                   refine (num_any M I B (gs3 B s).1 (gs3 B s).2 1 v3 G3.out.i (by decide)).mono ?_
                   rintro r w4 ⟨rfl, q4⟩
                   rw [show numOf (rawP B (gs3 B s).1 (gs3 B s).2 1) = nM B s from rfl]
                   have GR4 : Kp (RE wr M I T B ⟨y1, y2, y3, 0, fill 16 [], none, 0, 0, none, 0, 0⟩ (gs4 B s) w4) := ⟨G3.out.read q4⟩
                   obtain ⟨y4, hy4⟩ : ∃ y, y = nM B s := ⟨_, rfl⟩
                   have HY4 := Kp.mk hy4
                   have hr4 : 0 ≤ y4 ∧ y4 ≤ 255 := by rw [hy4]; exact num1 HBB.out _ _
                   have HR4 := Kp.mk hr4
                   rw [← hy4]
                   have kw4 : IntKind.i64.wrap y4 = y4 := IntWalk.i64_in _ (by omega)
                   have cc4 : w4.cell? ⟨T, 3, none⟩ = some (.int .i64 0) := (GR4.out.k.cell 3).trans (by rw [List.getElem?_toArray]; rfl)
                   have ff4 := GR4.out.k.frozen 3
                   have G4 : Kp (RE wr M I T B ⟨y1, y2, y3, y4, fill 16 [], none, 0, 0, none, 0, 0⟩ (gs4 B s) (w4.setCell ⟨T, 3, none⟩ (.int .i64 y4))) := ⟨GR4.out.put (by have h9 := (Turn.same GR4.out.k).set 3 (.int .i64 y4); rw [ec_set3] at h9; exact h9) (by exact GR4.out.xl)⟩
                   clear q4 hy4 G3
                   go_wp2_with fail
                   revert G4
                   generalize w4.setCell ⟨T, 3, none⟩ (.int .i64 y4) = v4
                   intro G4
                   clear cc4 ff4 GR4 kw4 hr4
                   refine (risum_any M I B (gs4 B s).1 (gs4 B s).2 v4 G4.out.i).mono ?_
                   rintro r w5 ⟨rfl, q5⟩
                   rw [show rsumP B (gs4 B s).1 (gs4 B s).2 = nL B s from rfl]
                   have G5 : Kp (RE wr M I T B ⟨y1, y2, y3, y4, fill 16 [], none, 0, 0, none, 0, 0⟩ (gs5 B s) w5) := ⟨G4.out.read q5⟩
                   obtain ⟨lf, hlf⟩ : ∃ lf, lf = nL B s := ⟨_, rfl⟩
                   have HLF : Kp (lf = nL B s ∧ lf.length = 16) := ⟨hlf, by rw [hlf]; exact nL_len _ _⟩
                   rw [← hlf]
                   clear hlf q5 G4
                   have HTH : Kp (w5.there T 4 (bv lf).toArray.size) := ⟨by
                     rw [List.size_toArray, List.length_map, HLF.out.2]
                     intro j hj
                     refine ⟨?_, G5.out.k.frozen (4 + j)⟩
                     rw [G5.out.k.cell (4 + j), List.getElem?_toArray, List.getElem?_eq_getElem (by rw [ec_len G5.out.xl]; omega)]
                     rfl⟩
                   have HTU := Kp.mk (Turn.cells (b := T) (t := 105) (w := w5) (bv lf) 4 w5 (ec ⟨y1, y2, y3, y4, fill 16 [], none, 0, 0, none, 0, 0⟩) (by rw [List.length_map, HLF.out.2, ec_len rfl]; omega) (Turn.same G5.out.k))
                   have HIN : Kp ((Tryd.prog.info? 40).map (·.size) = some (bv lf).toArray.size) := ⟨by rw [List.size_toArray]; exact cellsL42 HLF.out.2⟩
                   go_wp2_with (refine wpList_store_mid rfl 40 (.tmp 81) (.tmp 79) rfl T 4 (bv lf).toArray rfl rfl HTH.out HIN.out (bv_all lf) ?_; refine wpl_world (fun W => RE wr M I T B ⟨y1, y2, y3, y4, lf, none, 0, 0, none, 0, 0⟩ (gs5 B s) W) (by have h9 := HTU.out; rw [ec_splice rfl HLF.out.2] at h9; exact G5.out.put h9 HLF.out.2) ?_; rintro W5 h5; have G6 := Kp.mk h5; clear h5)
                   clear HTH HTU HIN G5
                   refine (rsums_any M I B (gs5 B s).1 (gs5 B s).2 3 W5 G6.out.i (by decide) (by decide)).mono ?_
                   rintro r w6 ⟨vw, nw, rfl, hl6, hn6, ho6, q6⟩
                   rw [show rsumsP B (gs5 B s).1 (gs5 B s).2 3 = nW B s from rfl] at hl6 ho6
                   obtain ⟨aw, cw, rfl⟩ := row_shapeU ho6
                   have LW5 : Kp (T < W5.heap.size) := ⟨G6.out.k.lt⟩
                   have HW6 : Kp ((nW B s).length = nw * 16 ∧ nw ≤ 65535 ∧ w6.ownsRow (T + 1) 40 16 (.slice aw nw cw) nw (bv (nW B s))) := ⟨hl6, by omega, ownsRow_base ho6 (by have := LW5.out; omega)⟩
                   have G7 : Kp (RE wr M I T B ⟨y1, y2, y3, y4, lf, none, 0, 0, none, 0, 0⟩ (gs6 B s) w6) := ⟨G6.out.read q6⟩
                   clear q6 hl6 hn6 ho6 G6 LW5
                   have c20 : w6.cell? ⟨T, 20, none⟩ = some (.slice none 0 0) := (G7.out.k.cell 20).trans (by rw [List.getElem?_toArray]; exact ec_20 HLF.out.2)
                   have f20 := G7.out.k.frozen 20
                   have HT7 := Kp.mk ((Turn.same G7.out.k).set 20 (.slice aw nw cw))
                   have G8 : Kp (RE wr M I T B ⟨y1, y2, y3, y4, lf, aw, nw, cw, none, 0, 0⟩ (gs6 B s) (w6.setCell ⟨T, 20, none⟩ (.slice aw nw cw))) := ⟨by have h9 := HT7.out; rw [ec_set20 HLF.out.2] at h9; exact G7.out.put h9 HLF.out.2⟩
                   have HW7 : Kp ((nW B s).length = nw * 16 ∧ nw ≤ 65535 ∧ (w6.setCell ⟨T, 20, none⟩ (.slice aw nw cw)).ownsRow (T + 1) 40 16 (.slice aw nw cw) nw (bv (nW B s))) := ⟨HW6.out.1, HW6.out.2.1, ownsRow_turn HW6.out.2.2 HT7.out (by omega)⟩
                   go_wp2_with fail
                   revert G8 HW7
                   generalize w6.setCell ⟨T, 20, none⟩ (.slice aw nw cw) = W7
                   intro G8 HW7
                   clear c20 f20 HT7 G7 HW6
                   refine (rsums_any M I B (gs6 B s).1 (gs6 B s).2 6 W7 G8.out.i (by decide) (by decide)).mono ?_
                   rintro r w8 ⟨vp, np, rfl, hl8, hn8, ho8, q8⟩
                   rw [show rsumsP B (gs6 B s).1 (gs6 B s).2 6 = nP B s from rfl] at hl8 ho8
                   obtain ⟨ap, cp, rfl⟩ := row_shapeU ho8
                   have HP8 : Kp ((nP B s).length = np * 16 ∧ np ≤ 65535 ∧ w8.ownsRow (T + 1) 40 16 (.slice ap np cp) np (bv (nP B s))) := ⟨hl8, by omega, ownsRow_base ho8 (by have := G8.out.k.lt; omega)⟩
                   have HW8 : Kp ((nW B s).length = nw * 16 ∧ nw ≤ 65535 ∧ w8.ownsRow (T + 1) 40 16 (.slice aw nw cw) nw (bv (nW B s))) := ⟨HW7.out.1, HW7.out.2.1, by obtain ⟨o, ho⟩ := q8.turn; exact ownsRow_turn HW7.out.2.2 ho (by have := G8.out.iw; have := G8.out.wt; omega)⟩
                   have G9 : Kp (RE wr M I T B ⟨y1, y2, y3, y4, lf, aw, nw, cw, none, 0, 0⟩ (gs7 B s) w8) := ⟨G8.out.read q8⟩
                   clear q8 hl8 hn8 ho8 G8 HW7
                   have c21 : w8.cell? ⟨T, 21, none⟩ = some (.slice none 0 0) := (G9.out.k.cell 21).trans (by rw [List.getElem?_toArray]; exact ec_21 HLF.out.2)
                   have f21 := G9.out.k.frozen 21
                   have HT9 := Kp.mk ((Turn.same G9.out.k).set 21 (.slice ap np cp))
                   have G10 : Kp (RE wr M I T B ⟨y1, y2, y3, y4, lf, aw, nw, cw, ap, np, cp⟩ (gs7 B s) (w8.setCell ⟨T, 21, none⟩ (.slice ap np cp))) := ⟨by have h9 := HT9.out; rw [ec_set21 (by exact HLF.out.2)] at h9; exact G9.out.put h9 HLF.out.2⟩
                   have HO10 : Kp ((nW B s).length = nw * 16 ∧ nw ≤ 65535 ∧ (nP B s).length = np * 16 ∧ np ≤ 65535 ∧ (w8.setCell ⟨T, 21, none⟩ (.slice ap np cp)).ownsRow (T + 1) 40 16 (.slice aw nw cw) nw (bv (nW B s)) ∧ (w8.setCell ⟨T, 21, none⟩ (.slice ap np cp)).ownsRow (T + 1) 40 16 (.slice ap np cp) np (bv (nP B s))) := ⟨HW8.out.1, HW8.out.2.1, HP8.out.1, HP8.out.2.1, ownsRow_turn HW8.out.2.2 HT9.out (by omega), ownsRow_turn HP8.out.2.2 HT9.out (by omega)⟩
                   obtain ⟨W9, hW9⟩ : ∃ W9, W9 = w8.setCell ⟨T, 21, none⟩ (.slice ap np cp) := ⟨_, rfl⟩
                   have HW9 := Kp.mk hW9
                   rw [← hW9] at G10 HO10
                   clear hW9 HT9 G9 HW8 HP8
                   have HC2 : Kp (W9.cell? ⟨I, 2, none⟩ = some (.int .i64 (gs7 B s).2) ∧ W9.frozen? ⟨I, 2, none⟩ = false ∧ I < W9.heap.size) := ⟨by
                     obtain ⟨_, ⟨u, _, hb⟩, _⟩ := G10.out.i
                     exact ⟨hb.cell 2, hb.frozen 2, hb.lt⟩⟩
                   have HKR := fun wx => rkright_any y2 y3 y4 wx
                   have HKY := Kp.mk (ec_range G10.out.k)
                   have HTU : Kp ((uT B (i + 1)).1 = ((gs7 B s).1, if uFol B last s = true then (gs7 B s).2 else failE (gs7 B s).2 10) ∧ (uT B (i + 1)).2 = y1) := ⟨by rw [HSI.out.1, HSI.out.2]; rfl, by rw [HY1.out, HSI.out.1]; rfl⟩
                   have HFB : Kp (uFol B last s = (decide ((0 ≤ y1 ∧ y1 < 8) ∧ last < y1) && krB y2 y3 y4)) := ⟨by rw [HY1.out, HY2.out, HY3.out, HY4.out]; rfl⟩
                   obtain ⟨e7, he7⟩ : ∃ e, e = (gs7 B s).2 := ⟨_, rfl⟩
                   have HE7 := Kp.mk he7
                   rw [← he7] at HC2
                   clear he7
                   have hways : e7 ≠ 0 ∨ (e7 = 0 ∧ y1 ≤ last) ∨ (e7 = 0 ∧ ¬ y1 ≤ last ∧ 8 ≤ y1) ∨ (e7 = 0 ∧ ¬ y1 ≤ last ∧ ¬ 8 ≤ y1 ∧ krB y2 y3 y4 = false) ∨ (e7 = 0 ∧ ¬ y1 ≤ last ∧ ¬ 8 ≤ y1 ∧ krB y2 y3 y4 = true) := by
                     by_cases h1 : e7 = 0
                     · by_cases h2 : y1 ≤ last
                       · exact .inr (.inl ⟨h1, h2⟩)
                       · by_cases h3 : 8 ≤ y1
                         · exact .inr (.inr (.inl ⟨h1, h2, h3⟩))
                         · cases h4 : krB y2 y3 y4
                           · exact .inr (.inr (.inr (.inl ⟨h1, h2, h3, rfl⟩)))
                           · exact .inr (.inr (.inr (.inr ⟨h1, h2, h3, rfl⟩)))
                     · exact .inl h1
                   have k0 : w8.cell? ⟨T, 21, none⟩ = some (.slice none 0 0) := c21
                   rcases hways with hw | hw | hw | hw | hw
                   case' inl =>
                     have hE : (e7 == 0) = false := by simpa using hw
                     have HT1 : Kp ((uT B (i + 1)).1 = gs7 B s) := ⟨by rw [HTU.out.1, failE_no (.inl (by rw [← HE7.out]; exact hw)), ite_self]⟩
                     clear hw HKR HFB
                     have hc2 := HC2.out.1
                     rw [HW9.out] at hc2
                     go_upto_region 23 with fail
                     rw [← HW9.out]
                     clear hc2
                     have G11 : Kp (RE wr M I T B ⟨y1, y2, y3, y4, lf, aw, nw, cw, ap, np, cp⟩ (uT B (i + 1)).1 W9) := ⟨by rw [HT1.out]; exact G10.out⟩
                     have HO11 := HO10
                     clear G10 HO10 HT1 hE
                     generalize W9 = WB at *
                   case' inr.inl =>
                     obtain ⟨h1, h2⟩ := hw
                     have HFF : Kp (uFol B last s = false) := ⟨by rw [HFB.out]; simp; intros; omega⟩
                     have b1 : decide (y1 ≤ last) = true := by simp [h2]
                     have HT1 : Kp ((uT B (i + 1)).1 = ((gs7 B s).1, 10)) := ⟨by rw [HTU.out.1, HFF.out, if_neg (by simp), failE_yes (by rw [← HE7.out]; exact h1) (by decide)]⟩
                     subst h1
                     clear HFB HFF h2
                     have hc2 := HC2.out.1
                     have x0 : W9.cell? ⟨T, 0, none⟩ = some (.int .i64 y1) := HKY.out 0 _ rfl
                     have HKX := HKY
                     rw [HW9.out] at hc2 x0 HKX
                     have hf2 := HC2.out.2.1
                     have hl2 := HC2.out.2.2
                     rw [HW9.out] at hf2 hl2
                     go_upto_region 23 with fail
                     rw [← HW9.out]
                     have G11 : Kp (RE wr M I T B ⟨y1, y2, y3, y4, lf, aw, nw, cw, ap, np, cp⟩ (uT B (i + 1)).1 (W9.setCell ⟨I, 2, none⟩ (.int .i64 10))) := ⟨by rw [HT1.out]; exact G10.out.read (s' := ((gs7 B s).1, 10)) (G10.out.i.fail 10)⟩
                     have HO11 : Kp ((nW B s).length = nw * 16 ∧ nw ≤ 65535 ∧ (nP B s).length = np * 16 ∧ np ≤ 65535 ∧ (W9.setCell ⟨I, 2, none⟩ (.int .i64 10)).ownsRow (T + 1) 40 16 (.slice aw nw cw) nw (bv (nW B s)) ∧ (W9.setCell ⟨I, 2, none⟩ (.int .i64 10)).ownsRow (T + 1) 40 16 (.slice ap np cp) np (bv (nP B s))) := ⟨HO10.out.1, HO10.out.2.1, HO10.out.2.2.1, HO10.out.2.2.2.1, by obtain ⟨o, ho⟩ := (G10.out.i.fail 10).turn; exact ownsRow_turn HO10.out.2.2.2.2.1 ho (by have := G10.out.iw; have := G10.out.wt; omega), by obtain ⟨o, ho⟩ := (G10.out.i.fail 10).turn; exact ownsRow_turn HO10.out.2.2.2.2.2 ho (by have := G10.out.iw; have := G10.out.wt; omega)⟩
                     clear G10 HO10 HT1 HKR hc2 x0 HKX hf2 hl2 b1
                     generalize W9.setCell ⟨I, 2, none⟩ (.int .i64 10) = WB at *
                   case' inr.inr.inl =>
                     obtain ⟨h1, h2, h3⟩ := hw
                     have HFF : Kp (uFol B last s = false) := ⟨by rw [HFB.out]; simp; intros; omega⟩
                     have b1 : decide (y1 ≤ last) = false := by simp; omega
                     have b2 : decide (8 ≤ y1) = true := by simp [h3]
                     have HT1 : Kp ((uT B (i + 1)).1 = ((gs7 B s).1, 10)) := ⟨by rw [HTU.out.1, HFF.out, if_neg (by simp), failE_yes (by rw [← HE7.out]; exact h1) (by decide)]⟩
                     subst h1
                     clear HFB HFF h2 h3
                     have hc2 := HC2.out.1
                     have x0 : W9.cell? ⟨T, 0, none⟩ = some (.int .i64 y1) := HKY.out 0 _ rfl
                     have HKX := HKY
                     rw [HW9.out] at hc2 x0 HKX
                     have hf2 := HC2.out.2.1
                     have hl2 := HC2.out.2.2
                     rw [HW9.out] at hf2 hl2
                     go_upto_region 23 with fail
                     rw [← HW9.out]
                     have G11 : Kp (RE wr M I T B ⟨y1, y2, y3, y4, lf, aw, nw, cw, ap, np, cp⟩ (uT B (i + 1)).1 (W9.setCell ⟨I, 2, none⟩ (.int .i64 10))) := ⟨by rw [HT1.out]; exact G10.out.read (s' := ((gs7 B s).1, 10)) (G10.out.i.fail 10)⟩
                     have HO11 : Kp ((nW B s).length = nw * 16 ∧ nw ≤ 65535 ∧ (nP B s).length = np * 16 ∧ np ≤ 65535 ∧ (W9.setCell ⟨I, 2, none⟩ (.int .i64 10)).ownsRow (T + 1) 40 16 (.slice aw nw cw) nw (bv (nW B s)) ∧ (W9.setCell ⟨I, 2, none⟩ (.int .i64 10)).ownsRow (T + 1) 40 16 (.slice ap np cp) np (bv (nP B s))) := ⟨HO10.out.1, HO10.out.2.1, HO10.out.2.2.1, HO10.out.2.2.2.1, by obtain ⟨o, ho⟩ := (G10.out.i.fail 10).turn; exact ownsRow_turn HO10.out.2.2.2.2.1 ho (by have := G10.out.iw; have := G10.out.wt; omega), by obtain ⟨o, ho⟩ := (G10.out.i.fail 10).turn; exact ownsRow_turn HO10.out.2.2.2.2.2 ho (by have := G10.out.iw; have := G10.out.wt; omega)⟩
                     clear G10 HO10 HT1 HKR hc2 x0 HKX hf2 hl2 b1 b2
                     generalize W9.setCell ⟨I, 2, none⟩ (.int .i64 10) = WB at *
                   case' inr.inr.inr.inl =>
                     obtain ⟨h1, h2, h3, h4⟩ := hw
                     have HFF : Kp (uFol B last s = false) := ⟨by rw [HFB.out, h4, Bool.and_false]⟩
                     have b1 : decide (y1 ≤ last) = false := by simp; omega
                     have b2 : decide (8 ≤ y1) = false := by simp; omega
                     rw [h4] at HKR
                     have HT1 : Kp ((uT B (i + 1)).1 = ((gs7 B s).1, 10)) := ⟨by rw [HTU.out.1, HFF.out, if_neg (by simp), failE_yes (by rw [← HE7.out]; exact h1) (by decide)]⟩
                     subst h1
                     clear HFB HFF h2 h3 h4
                     have hc2 := HC2.out.1
                     have x0 : W9.cell? ⟨T, 0, none⟩ = some (.int .i64 y1) := HKY.out 0 _ rfl
                     have HKX := HKY
                     rw [HW9.out] at hc2 x0 HKX
                     go_wp2_with (refine wpList_load_midG rfl 100 (.tmp 106) rfl T 1 rfl [.int .u32 y2, .int .u32 y3, .int .i64 y4] _ (by have h9 := ec_key HKX.out; simpa using h9) Tryd.underlying100 rfl (by kernel_rfl) ?_)
                     rw [← HW9.out]
                     refine (HKR _).mono ?_
                     rintro r WA ⟨rfl, hb⟩
                     have GA := Kp.mk (G10.out.below hb)
                     have HOA : Kp (WA.ownsRow (T + 1) 40 16 (.slice aw nw cw) nw (bv (nW B s)) ∧ WA.ownsRow (T + 1) 40 16 (.slice ap np cp) np (bv (nP B s))) := ⟨ownsRow_below HO10.out.2.2.2.2.1 hb, ownsRow_below HO10.out.2.2.2.2.2 hb⟩
                     have hc3 : WA.cell? ⟨I, 2, none⟩ = some (.int .i64 0) ∧ WA.frozen? ⟨I, 2, none⟩ = false ∧ I < WA.heap.size := by
                       obtain ⟨_, ⟨u, _, hbb⟩, _⟩ := GA.out.i
                       exact ⟨(hbb.cell 2).trans (by rw [← HE7.out]; rfl), hbb.frozen 2, hbb.lt⟩
                     obtain ⟨hc3, hf3, hl3⟩ := hc3
                     have G11 : Kp (RE wr M I T B ⟨y1, y2, y3, y4, lf, aw, nw, cw, ap, np, cp⟩ (uT B (i + 1)).1 (WA.setCell ⟨I, 2, none⟩ (.int .i64 10))) := ⟨by rw [HT1.out]; exact GA.out.read (s' := ((gs7 B s).1, 10)) (GA.out.i.fail 10)⟩
                     have HO11 : Kp ((nW B s).length = nw * 16 ∧ nw ≤ 65535 ∧ (nP B s).length = np * 16 ∧ np ≤ 65535 ∧ (WA.setCell ⟨I, 2, none⟩ (.int .i64 10)).ownsRow (T + 1) 40 16 (.slice aw nw cw) nw (bv (nW B s)) ∧ (WA.setCell ⟨I, 2, none⟩ (.int .i64 10)).ownsRow (T + 1) 40 16 (.slice ap np cp) np (bv (nP B s))) := ⟨HO10.out.1, HO10.out.2.1, HO10.out.2.2.1, HO10.out.2.2.2.1, by obtain ⟨o, ho⟩ := (GA.out.i.fail 10).turn; exact ownsRow_turn HOA.out.1 ho (by have := GA.out.iw; have := GA.out.wt; omega), by obtain ⟨o, ho⟩ := (GA.out.i.fail 10).turn; exact ownsRow_turn HOA.out.2 ho (by have := GA.out.iw; have := GA.out.wt; omega)⟩
                     clear hb G10 HO10 HT1 HKR hc2 x0 HKX b1 b2 GA HOA
                     go_upto_region 23 with fail
                     clear hc3 hf3 hl3
                     generalize WA.setCell ⟨I, 2, none⟩ (.int .i64 10) = WB at *
                   case' inr.inr.inr.inr =>
                     obtain ⟨h1, h2, h3, h4⟩ := hw
                     have HFF : Kp (uFol B last s = true) := ⟨by rw [HFB.out, h4, Bool.and_true, decide_eq_true_eq]; have := HR1.out; omega⟩
                     have HT1 : Kp ((uT B (i + 1)).1 = gs7 B s) := ⟨by rw [HTU.out.1, HFF.out]; rfl⟩
                     have b1 : decide (y1 ≤ last) = false := by simp; omega
                     have b2 : decide (8 ≤ y1) = false := by simp; omega
                     rw [h4] at HKR
                     subst h1
                     clear HFB HFF h2 h3 h4
                     have hc2 := HC2.out.1
                     have x0 : W9.cell? ⟨T, 0, none⟩ = some (.int .i64 y1) := HKY.out 0 _ rfl
                     have HKX := HKY
                     rw [HW9.out] at hc2 x0 HKX
                     go_wp2_with (refine wpList_load_midG rfl 100 (.tmp 106) rfl T 1 rfl [.int .u32 y2, .int .u32 y3, .int .i64 y4] _ (by have h9 := ec_key HKX.out; simpa using h9) Tryd.underlying100 rfl (by kernel_rfl) ?_)
                     rw [← HW9.out]
                     refine (HKR _).mono ?_
                     rintro r WB ⟨rfl, hb⟩
                     have G11 : Kp (RE wr M I T B ⟨y1, y2, y3, y4, lf, aw, nw, cw, ap, np, cp⟩ (uT B (i + 1)).1 WB) := ⟨by rw [HT1.out]; exact G10.out.below hb⟩
                     have HO11 : Kp ((nW B s).length = nw * 16 ∧ nw ≤ 65535 ∧ (nP B s).length = np * 16 ∧ np ≤ 65535 ∧ WB.ownsRow (T + 1) 40 16 (.slice aw nw cw) nw (bv (nW B s)) ∧ WB.ownsRow (T + 1) 40 16 (.slice ap np cp) np (bv (nP B s))) := ⟨HO10.out.1, HO10.out.2.1, HO10.out.2.2.1, HO10.out.2.2.2.1, ownsRow_below HO10.out.2.2.2.2.1 hb, ownsRow_below HO10.out.2.2.2.2.2 hb⟩
                     clear hb G10 HO10 HT1 HKR hc2 x0 HKX b1 b2
                     go_upto_region 23 with fail
                   all_goals
                     have HXL : Kp ((⟨y1, y2, y3, y4, lf, aw, nw, cw, ap, np, cp⟩ : EV).lf.length = 16) := ⟨HLF.out.2⟩
                     have HUE : Kp (uE B i (⟨y1, y2, y3, y4, lf, aw, nw, cw, ap, np, cp⟩, nW B s, nP B s)) := ⟨by unfold uE; rw [← HSI.out.1]; exact ⟨⟨HY1.out, HY2.out, HY3.out, HY4.out, HLF.out.1⟩, rfl, rfl⟩⟩
                     have HEO : Kp (EOw WB 40 (H + 1) (⟨y1, y2, y3, y4, lf, aw, nw, cw, ap, np, cp⟩, nW B s, nP B s)) := ⟨⟨HLF.out.2, by show Bytes lf; rw [HLF.out.1]; exact nL_bytes HBB.out _, HO11.out.1, HO11.out.2.2.1, HO11.out.2.1, HO11.out.2.2.2.1, nW_bytes HBB.out _, nP_bytes HBB.out _, ownsRow_base HO11.out.2.2.2.2.1 (by have := LH.out; omega), ownsRow_base HO11.out.2.2.2.2.2 (by have := LH.out; omega)⟩⟩
                     have S7 : Kp (RG w M R I H B fl (.slice av nv cv) xs (uT B (i + 1)).1 WB ∧ Blk WB T (.cells (ec ⟨y1, y2, y3, y4, lf, aw, nw, cw, ap, np, cp⟩).toArray 105)) := ⟨HST.out.1.turn G11.out.i G11.out.t, G11.out.k⟩
                     have HXS : Kp (UGood B i xs) := ⟨HST.out.2⟩
                     have HUT2 : Kp ((uT B (i + 1)).2 = y1) := ⟨HTU.out.2⟩
                     clear G11 HO11 HST HY1 HY2 HY3 HY4 HR1 HR2 HR3 HR4 HTU HKY HW9 HC2 HE7 c21 f21 k0
                     obtain ⟨x, hx⟩ : ∃ x : EV, x = ⟨y1, y2, y3, y4, lf, aw, nw, cw, ap, np, cp⟩ := ⟨_, rfl⟩
                     have HXD : Kp (x.d = y1) := ⟨by rw [hx]⟩
                     rw [← hx] at HXL HUE HEO S7
                     clear hx
                     have HIX := Kp.mk (info105s HXL.out)
                     have c0 : WB.cell? ⟨T, 0, none⟩ = some (.int .i64 x.d) := (S7.out.2.cell 0).trans (by rw [List.getElem?_toArray]; exact ec_0 _)
                     have d1 : WB.cell? ⟨H, 1, none⟩ = some (.slice av nv cv) := S7.out.1.h.cell 1
                     go_wp2_with (first
                       | (refine wpList_load_row rfl 105 (.tmp 10) rfl T rfl 105 (ec x).toArray (0, 0) _ S7.out.2 Tryd.underlying105 rfl HIX.out ?_)
                       | (refine wpList_buildSlice_one rfl 50 1 (.tmp 119) rfl (ecV x) rfl _ _ (build50s HXL.out WB) ?_)
                       | (at_builtin; refine wpList_append_lies _ rfl (.tmp 118) (.tmp 120) 50 rfl (H + 1) 105 i0 (.agg (ec x0).toArray) 22 88 Tryd.underlying50 hi0 hz0 hz1 hz2 rfl (by decide) (.slice av nv cv) xs.length (ecs xs) rfl (S7.out.1.es.keep (more (Below.refl _ _) _)).v ⟨WB.heap.size, 0, none⟩ 1 1 (ec x) rfl ?e0 ?e1 ?e2 (by decide) ?e3 ?e4 ?e5 (WB.heap.size + 1) ?e6 ?_))
                     case e0 => rw [ec_len HXL.out]
                     case e1 => exact World.news_of_block (Blk.new WB (.cells (ec x).toArray 105))
                     case e2 => exact fun u hu => List.all_eq_true.1 (by simpa using ec_one x) u hu
                     case e3 => have := HXS.out.1; have := HK8.out; unfold maxLen; omega
                     case e4 => have := HXS.out.1; have := HK8.out; omega
                     case e5 => have := S7.out.1.h.lt; simp; omega
                     case e6 => simp
                     intro g capN w8' ho hg hv hlt9
                     have HH8 : Kp (Blk w8' H (.cells #[.bool fl, .slice av nv cv] 52)) := ⟨S7.out.1.h.upto (below_row_grown (B := H + 1) ((more (Below.refl _ _) _).mono (by have := S7.out.1.h.lt; omega)) (by have := S7.out.1.h.lt; simp; omega) (S7.out.1.es.keep (more (Below.refl _ _) _)).v hg) (by omega)⟩
                     have S8 := Kp.mk (S7.out.1.app HEO.out ho hg)
                     clear ho hg hv hlt9 c0 d1
                     have d1 : w8'.cell? ⟨H, 1, none⟩ = some (.slice av nv cv) := HH8.out.cell 1
                     have f1 := HH8.out.frozen 1
                     clear S7 HH8
                     go_wp2_with fail
                     exact ⟨⟨i + 1, _, _, _, xs ++ [(x, nW B s, nP B s)], by omega, by rw [HUT2.out, HXD.out], by go_num, ⟨S8.out, UGood.app HXS.out HUE.out⟩⟩, by simp [intOf]; omega⟩
                 · obtain rfl : i = uK B := by omega
                   have hin : ¬ ((uK B : Nat) : Int) < n := by omega
                   have HEQ : Kp ((if 0 < rleft B (uT B (uK B)).1.1 (uT B (uK B)).1.2 then (10 : Int) else (uT B (uK B)).1.2) = uEnd B) := ⟨uEnd_stop (Nat.le_refl _) (.inl rfl)⟩
                   have HGD : Kp (UGood B (uK B) xs) := ⟨HST.out.2⟩
                   clear hNk he c2
                   go_wp2_with fail
                   refine (rend_any M I B _ _ wr HST.out.1.i).mono ?_
                   rintro r w5 ⟨rfl, o5, h5⟩
                   rw [HEQ.out]
                   have S5 : Kp (Blk w5 R (.cells #[.bool false, .slice none 0 0] 52) ∧ Blk w5 H (.cells #[.bool fl, .slice av nv cv] 52) ∧ EOs w5 105 40 (H + 1) (.slice av nv cv) xs ∧ Below R w w5 ∧ R < H) := ⟨h5.keep HST.out.1.r (by have := HST.out.1.ri; omega), h5.keep HST.out.1.h (by have := HST.out.1.ih; omega), HST.out.1.es.turn h5 (by have := HST.out.1.ih; omega), HST.out.1.below.trans (h5.below (by have := HST.out.1.ri; omega) (by have := HST.out.1.r.lt; omega)), by have := HST.out.1.ri; have := HST.out.1.ih; omega⟩
                   clear h5 HST
                   by_cases he : uEnd B = 0
                   · have HGE := Kp.mk he
                     rw [he]
                     clear he
                     go_wp2_with (first
                       | (refine wpList_load_row rfl 52 (.tmp 7) rfl H rfl 52 #[.bool fl, .slice av nv cv] (0, 0) _ S5.out.2.1 Tryd.underlying52 rfl info52s ?_)
                       | (refine wpList_store_row rfl 52 (.tmp 2) (.tmp 129) rfl R #[.bool fl, .slice av nv cv] rfl rfl 52 _ S5.out.1 info52s rfl (u_one _ _ _ _) ?_; refine wpl_world (w := w5.setRow R #[.bool fl, .slice av nv cv]) (fun W => Blk W R (.cells #[.bool fl, .slice av nv cv] 52) ∧ EOs W 105 40 (H + 1) (.slice av nv cv) xs ∧ Below R w W) ⟨(Turn.ofRow S5.out.1 _).blk, S5.out.2.2.1.turn (Turn.ofRow S5.out.1 _) (by have := S5.out.2.2.2.2; omega), S5.out.2.2.2.1.trans ((Turn.ofRow S5.out.1 _).below (Nat.le_refl _) (by have := S5.out.1.lt; omega))⟩ ?_; rintro W6 h6; have S6 := Kp.mk h6; clear h6))
                     exact bodyPost_ret (results_row_tmpU rfl _ _ R 52 _ _ _ (.int .i64 0) rfl rfl S6.out.1 Tryd.underlying52 rfl info52s) rfl ⟨av, nv, cv, xs, by rw [HGE.out, HFL.out]; rfl, EOs.base S6.out.2.1 (by have := HRe.out; have := S5.out.2.2.2.2; omega), by rw [if_pos HGE.out]; exact HGD.out, by rw [← HRe.out]; exact S6.out.2.2⟩
                   · have HGE : Kp (uEnd B ≠ 0) := ⟨he⟩
                     have hne : (uEnd B != 0) = true := by simpa using he
                     obtain ⟨E, hE⟩ : ∃ E, E = uEnd B := ⟨_, rfl⟩
                     have HE := Kp.mk hE
                     rw [← hE] at hne ⊢
                     clear he hE
                     go_wp2_with (refine wpList_store_row rfl 52 (.tmp 2) (.tmp 127) rfl R #[.bool false, .slice none 0 0] rfl rfl 52 _ S5.out.1 info52s rfl (u_one _ _ _ _) ?_; refine wpl_world (w := w5.setRow R #[.bool false, .slice none 0 0]) (fun W => Blk W R (.cells #[.bool false, .slice none 0 0] 52) ∧ Below R w W) ⟨(Turn.ofRow S5.out.1 _).blk, S5.out.2.2.2.1.trans ((Turn.ofRow S5.out.1 _).below (Nat.le_refl _) (by have := S5.out.1.lt; omega))⟩ ?_; rintro W6 h6; have S6 := Kp.mk h6; clear h6)
                     exact bodyPost_ret (results_row_tmpU rfl _ _ R 52 _ _ _ (.int .i64 E) rfl rfl S6.out.1 Tryd.underlying52 rfl info52s) rfl ⟨none, 0, 0, [], by rw [decide_eq_false HGE.out, HE.out]; rfl, ⟨World.ownsRow_nil _ _ _ _, fun z hz => by cases hz⟩, by rw [if_neg HGE.out], by rw [← HRe.out]; exact S6.out.2⟩
               · have HEQ : Kp ((if 0 < rleft B (uT B i).1.1 (uT B i).1.2 then (10 : Int) else (uT B i).1.2) = uEnd B) := ⟨uEnd_stop hi' (.inr he)⟩
                 have hue : uEnd B ≠ 0 := by
                   rw [← HEQ.out]
                   have : rleft B (uT B i).1.1 (uT B i).1.2 = 0 := by unfold rleft; rw [if_neg he]
                   rw [this, if_neg (by omega)]
                   exact he
                 have hek : ((uT B i).1.2 == 0) = false := by simpa using he
                 have he := hue
                 clear hue
                 by_cases hin : (i : Int) < n
                 · go_wp2_with fail
                   clear c2 hek
                   refine (rend_any M I B _ _ wr HST.out.1.i).mono ?_
                   rintro r w5 ⟨rfl, o5, h5⟩
                   rw [HEQ.out]
                   have S5 : Kp (Blk w5 R (.cells #[.bool false, .slice none 0 0] 52) ∧ Blk w5 H (.cells #[.bool fl, .slice av nv cv] 52) ∧ EOs w5 105 40 (H + 1) (.slice av nv cv) xs ∧ Below R w w5 ∧ R < H) := ⟨h5.keep HST.out.1.r (by have := HST.out.1.ri; omega), h5.keep HST.out.1.h (by have := HST.out.1.ih; omega), HST.out.1.es.turn h5 (by have := HST.out.1.ih; omega), HST.out.1.below.trans (h5.below (by have := HST.out.1.ri; omega) (by have := HST.out.1.r.lt; omega)), by have := HST.out.1.ri; have := HST.out.1.ih; omega⟩
                   clear h5 HST
                   have HGE : Kp (uEnd B ≠ 0) := ⟨he⟩
                   have hne : (uEnd B != 0) = true := by simpa using he
                   obtain ⟨E, hE⟩ : ∃ E, E = uEnd B := ⟨_, rfl⟩
                   have HE := Kp.mk hE
                   rw [← hE] at hne ⊢
                   clear he hE
                   go_wp2_with (refine wpList_store_row rfl 52 (.tmp 2) (.tmp 127) rfl R #[.bool false, .slice none 0 0] rfl rfl 52 _ S5.out.1 info52s rfl (u_one _ _ _ _) ?_; refine wpl_world (w := w5.setRow R #[.bool false, .slice none 0 0]) (fun W => Blk W R (.cells #[.bool false, .slice none 0 0] 52) ∧ Below R w W) ⟨(Turn.ofRow S5.out.1 _).blk, S5.out.2.2.2.1.trans ((Turn.ofRow S5.out.1 _).below (Nat.le_refl _) (by have := S5.out.1.lt; omega))⟩ ?_; rintro W6 h6; have S6 := Kp.mk h6; clear h6)
                   exact bodyPost_ret (results_row_tmpU rfl _ _ R 52 _ _ _ (.int .i64 E) rfl rfl S6.out.1 Tryd.underlying52 rfl info52s) rfl ⟨none, 0, 0, [], by rw [decide_eq_false HGE.out, HE.out]; rfl, ⟨World.ownsRow_nil _ _ _ _, fun z hz => by cases hz⟩, by rw [if_neg HGE.out], by rw [← HRe.out]; exact S6.out.2⟩
                 · go_wp2_with fail
                   clear c2 hek
                   refine (rend_any M I B _ _ wr HST.out.1.i).mono ?_
                   rintro r w5 ⟨rfl, o5, h5⟩
                   rw [HEQ.out]
                   have S5 : Kp (Blk w5 R (.cells #[.bool false, .slice none 0 0] 52) ∧ Blk w5 H (.cells #[.bool fl, .slice av nv cv] 52) ∧ EOs w5 105 40 (H + 1) (.slice av nv cv) xs ∧ Below R w w5 ∧ R < H) := ⟨h5.keep HST.out.1.r (by have := HST.out.1.ri; omega), h5.keep HST.out.1.h (by have := HST.out.1.ih; omega), HST.out.1.es.turn h5 (by have := HST.out.1.ih; omega), HST.out.1.below.trans (h5.below (by have := HST.out.1.ri; omega) (by have := HST.out.1.r.lt; omega)), by have := HST.out.1.ri; have := HST.out.1.ih; omega⟩
                   clear h5 HST
                   have HGE : Kp (uEnd B ≠ 0) := ⟨he⟩
                   have hne : (uEnd B != 0) = true := by simpa using he
                   obtain ⟨E, hE⟩ : ∃ E, E = uEnd B := ⟨_, rfl⟩
                   have HE := Kp.mk hE
                   rw [← hE] at hne ⊢
                   clear he hE
                   go_wp2_with (refine wpList_store_row rfl 52 (.tmp 2) (.tmp 127) rfl R #[.bool false, .slice none 0 0] rfl rfl 52 _ S5.out.1 info52s rfl (u_one _ _ _ _) ?_; refine wpl_world (w := w5.setRow R #[.bool false, .slice none 0 0]) (fun W => Blk W R (.cells #[.bool false, .slice none 0 0] 52) ∧ Below R w W) ⟨(Turn.ofRow S5.out.1 _).blk, S5.out.2.2.2.1.trans ((Turn.ofRow S5.out.1 _).below (Nat.le_refl _) (by have := S5.out.1.lt; omega))⟩ ?_; rintro W6 h6; have S6 := Kp.mk h6; clear h6)
                   exact bodyPost_ret (results_row_tmpU rfl _ _ R 52 _ _ _ (.int .i64 E) rfl rfl S6.out.1 Tryd.underlying52 rfl info52s) rfl ⟨none, 0, 0, [], by rw [decide_eq_false HGE.out, HE.out]; rfl, ⟨World.ownsRow_nil _ _ _ _, fun z hz => by cases hz⟩, by rw [if_neg HGE.out], by rw [← HRe.out]; exact S6.out.2⟩)
      · have hE3 : (e3 == 0) = false := by simpa using h0
        have HDEAD : Kp ((uT B 0).1.2 ≠ 0) := ⟨by rw [HU4.out, ← HE3.out]; exact h0⟩
        clear E3 HU3 HB3 HE3 h0
        go_upto_region 8 with fail
        clear c1 f1 l1 h8 HU4 hE3
        generalize w4' = w4 at *
        go_wp2_with (first
          | (refine wpList_store_row rfl 52 (.tmp 7) (.tmp 46) rfl w4.heap.size #[.bool fl, .slice none 0 0] rfl rfl 52 _ (Blk.newAt _ rfl) info52s rfl (u_one _ _ _ _) ?_; rw [World.setRow_alloc_new]; refine wpl_world (fun W => RG w M R I H B fl (.slice none 0 0) [] (uT B 0).1 W) ⟨D2.out.1.keep (more (Below.refl _ _) _), D2.out.2.1.old _, Blk.newAt _ HHe.out, ⟨World.ownsRow_nil _ _ _ _, fun z hz => by cases hz⟩, D2.out.2.2.1.alloc (by have := D2.out.2.1.lt; omega) _, MR.out, D2.out.2.2.2, by rw [HHe.out]; exact D2.out.1.lt⟩ ?_; rintro W4 hst; have S1 := Kp.mk hst; clear hst))
        rw [← HHe.out]
        clear D2
        go_loopw [8, 9] (fun lv ct wr => ∃ (i : Nat) (av : Option Addr) (nv cv : Nat) (xs : List E3), i ≤ uK B ∧ lv = .int .i64 (uT B i).2 ∧ ct = .int .i64 i ∧ Kp (RG w M R I H B fl (.slice av nv cv) xs (uT B i).1 wr ∧ UGood B i xs)) (fun _ ct _ => uK B - (intOf ct).toNat)
        case atStart => exact ⟨0, none, 0, 0, [], Nat.zero_le _, rfl, rfl, ⟨S1.out, rfl, fun j z hz => by simp at hz⟩⟩
        case round =>
          clear S1
          obtain ⟨i, av, nv, cv, xs, hi', rfl, rfl, HST⟩ := hrel
          have c2 : wr.cell? ⟨I, 2, none⟩ = some (.int .i64 (uT B i).1.2) := by
            obtain ⟨_, ⟨u, _, hb⟩, _⟩ := HST.out.1.i
            exact hb.cell 2
          by_cases he : (uT B i).1.2 = 0
          · exact absurd he (by have h9 := uT_stuck HDEAD.out i; rw [Nat.zero_add] at h9; rw [h9]; exact HDEAD.out)
          · have HEQ : Kp ((if 0 < rleft B (uT B i).1.1 (uT B i).1.2 then (10 : Int) else (uT B i).1.2) = uEnd B) := ⟨uEnd_stop hi' (.inr he)⟩
            have hue : uEnd B ≠ 0 := by
              rw [← HEQ.out]
              have : rleft B (uT B i).1.1 (uT B i).1.2 = 0 := by unfold rleft; rw [if_neg he]
              rw [this, if_neg (by omega)]
              exact he
            have hek : ((uT B i).1.2 == 0) = false := by simpa using he
            have he := hue
            clear hue
            by_cases hin : (i : Int) < n
            · go_wp2_with fail
              clear c2 hek
              refine (rend_any M I B _ _ wr HST.out.1.i).mono ?_
              rintro r w5 ⟨rfl, o5, h5⟩
              rw [HEQ.out]
              have S5 : Kp (Blk w5 R (.cells #[.bool false, .slice none 0 0] 52) ∧ Blk w5 H (.cells #[.bool fl, .slice av nv cv] 52) ∧ EOs w5 105 40 (H + 1) (.slice av nv cv) xs ∧ Below R w w5 ∧ R < H) := ⟨h5.keep HST.out.1.r (by have := HST.out.1.ri; omega), h5.keep HST.out.1.h (by have := HST.out.1.ih; omega), HST.out.1.es.turn h5 (by have := HST.out.1.ih; omega), HST.out.1.below.trans (h5.below (by have := HST.out.1.ri; omega) (by have := HST.out.1.r.lt; omega)), by have := HST.out.1.ri; have := HST.out.1.ih; omega⟩
              clear h5 HST
              have HGE : Kp (uEnd B ≠ 0) := ⟨he⟩
              have hne : (uEnd B != 0) = true := by simpa using he
              obtain ⟨E, hE⟩ : ∃ E, E = uEnd B := ⟨_, rfl⟩
              have HE := Kp.mk hE
              rw [← hE] at hne ⊢
              clear he hE
              go_wp2_with (refine wpList_store_row rfl 52 (.tmp 2) (.tmp 127) rfl R #[.bool false, .slice none 0 0] rfl rfl 52 _ S5.out.1 info52s rfl (u_one _ _ _ _) ?_; refine wpl_world (w := w5.setRow R #[.bool false, .slice none 0 0]) (fun W => Blk W R (.cells #[.bool false, .slice none 0 0] 52) ∧ Below R w W) ⟨(Turn.ofRow S5.out.1 _).blk, S5.out.2.2.2.1.trans ((Turn.ofRow S5.out.1 _).below (Nat.le_refl _) (by have := S5.out.1.lt; omega))⟩ ?_; rintro W6 h6; have S6 := Kp.mk h6; clear h6)
              exact bodyPost_ret (results_row_tmpU rfl _ _ R 52 _ _ _ (.int .i64 E) rfl rfl S6.out.1 Tryd.underlying52 rfl info52s) rfl ⟨none, 0, 0, [], by rw [decide_eq_false HGE.out, HE.out]; rfl, ⟨World.ownsRow_nil _ _ _ _, fun z hz => by cases hz⟩, by rw [if_neg HGE.out], by rw [← HRe.out]; exact S6.out.2⟩
            · go_wp2_with fail
              clear c2 hek
              refine (rend_any M I B _ _ wr HST.out.1.i).mono ?_
              rintro r w5 ⟨rfl, o5, h5⟩
              rw [HEQ.out]
              have S5 : Kp (Blk w5 R (.cells #[.bool false, .slice none 0 0] 52) ∧ Blk w5 H (.cells #[.bool fl, .slice av nv cv] 52) ∧ EOs w5 105 40 (H + 1) (.slice av nv cv) xs ∧ Below R w w5 ∧ R < H) := ⟨h5.keep HST.out.1.r (by have := HST.out.1.ri; omega), h5.keep HST.out.1.h (by have := HST.out.1.ih; omega), HST.out.1.es.turn h5 (by have := HST.out.1.ih; omega), HST.out.1.below.trans (h5.below (by have := HST.out.1.ri; omega) (by have := HST.out.1.r.lt; omega)), by have := HST.out.1.ri; have := HST.out.1.ih; omega⟩
              clear h5 HST
              have HGE : Kp (uEnd B ≠ 0) := ⟨he⟩
              have hne : (uEnd B != 0) = true := by simpa using he
              obtain ⟨E, hE⟩ : ∃ E, E = uEnd B := ⟨_, rfl⟩
              have HE := Kp.mk hE
              rw [← hE] at hne ⊢
              clear he hE
              go_wp2_with (refine wpList_store_row rfl 52 (.tmp 2) (.tmp 127) rfl R #[.bool false, .slice none 0 0] rfl rfl 52 _ S5.out.1 info52s rfl (u_one _ _ _ _) ?_; refine wpl_world (w := w5.setRow R #[.bool false, .slice none 0 0]) (fun W => Blk W R (.cells #[.bool false, .slice none 0 0] 52) ∧ Below R w W) ⟨(Turn.ofRow S5.out.1 _).blk, S5.out.2.2.2.1.trans ((Turn.ofRow S5.out.1 _).below (Nat.le_refl _) (by have := S5.out.1.lt; omega))⟩ ?_; rintro W6 h6; have S6 := Kp.mk h6; clear h6)
              exact bodyPost_ret (results_row_tmpU rfl _ _ R 52 _ _ _ (.int .i64 E) rfl rfl S6.out.1 Tryd.underlying52 rfl info52s) rfl ⟨none, 0, 0, [], by rw [decide_eq_false HGE.out, HE.out]; rfl, ⟨World.ownsRow_nil _ _ _ _, fun z hz => by cases hz⟩, by rw [if_neg HGE.out], by rw [← HRe.out]; exact S6.out.2⟩
end Go.Proofs.YtgabjmmmiogfjaaDoor
