/-
  frame.getEntry.
-/
import Derived.Test.YtgabjmmmiogfjaaDoorFuI
namespace Go.Proofs.YtgabjmmmiogfjaaDoor
open Go.RowKit

theorem num4 {l : List Int} (h : l.length ≤ 4) (hb : Bytes l) : 0 ≤ numOf l ∧ numOf l ≤ 4294967295 := by
  match l, h with
  | [], _ => decide
  | [a], _ =>
    have := hb a (by simp)
    simp only [numOf, List.foldl_cons, List.foldl_nil]
    omega
  | [a, b], _ =>
    have := hb a (by simp)
    have := hb b (by simp)
    simp only [numOf, List.foldl_cons, List.foldl_nil]
    omega
  | [a, b, c], _ =>
    have := hb a (by simp)
    have := hb b (by simp)
    have := hb c (by simp)
    simp only [numOf, List.foldl_cons, List.foldl_nil]
    omega
  | [a, b, c, d], _ =>
    have := hb a (by simp)
    have := hb b (by simp)
    have := hb c (by simp)
    have := hb d (by simp)
    simp only [numOf, List.foldl_cons, List.foldl_nil]
    omega
theorem num1 {B : List Int} (hb : Bytes B) (a : Nat) (e : Int) : 0 ≤ numOf (rawP B a e 1) ∧ numOf (rawP B a e 1) ≤ 255 := numOf_one (rawP_len _ _ _ _) (rawP_bytes hb _ _ _)
theorem nL_len (B : List Int) (s : Nat × Int) : (nL B s).length = 16 := rsumP_len _ _ _
theorem build115 (d : Int) (w : World) : (Instr.build 115 #[(0, .int .i64 d)]).run Tryd.prog w = .ok (.agg (ec { x0 with d := d }).toArray) w := run_build w 115 #[(0, .int .i64 d)] _ (by kernel_rfl)
def EntPost (I : Nat) (B : List Int) (s : Nat × Int) (w : World) (r : Ending) (w' : World) : Prop :=
  ∃ x : EV, r = .returned (ecV x) ∧ (x.d = nD B s ∧ x.e = nE B s ∧ x.s = nS B s ∧ x.m = nM B s ∧ x.lf = nL B s) ∧
    ((nW B s).length = x.wn * 16 ∧ x.wn ≤ 65535 ∧ w'.ownsRow w.heap.size 83 16 (.slice x.wa x.wn x.wc) x.wn (bv (nW B s))) ∧ ((nP B s).length = x.pn * 16 ∧ x.pn ≤ 65535 ∧ w'.ownsRow w.heap.size 83 16 (.slice x.pa x.pn x.pc) x.pn (bv (nP B s))) ∧
    ∃ l', InStep I I l' (gs7 B s).2 w w' ∧ Rel l' (gs7 B s).2 B (gs7 B s).1
theorem row_shapeU {w : World} {base size n : Nat} {t : TypeId} {v : Value} {xs : List Value} (h : w.ownsRow base t size v n xs) : ∃ a c, v = .slice a n c := by
  rcases h.2 with ⟨rfl, hn⟩ | ⟨g, cap, cur, rfl, _⟩
  · exact ⟨none, 0, by rw [hn]⟩
  · exact ⟨_, cap, rfl⟩
set_option maxRecDepth 100000 in
set_option maxHeartbeats 8000000 in
theorem getEntry_any (I : Nat) (l B : List Int) (s : Nat × Int) (w : World) (h : InIs w I I l s.2) (hr : Rel l s.2 B s.1) (hb : Bytes B) : Calls Tryd.prog 63 #[.pointer (some ⟨I, 0, none⟩)] w (EntPost I B s w) := by
  obtain ⟨R, hR⟩ : ∃ R, R = w.heap.size := ⟨_, rfl⟩
  have HRe := Kp.mk hR
  have HBB := Kp.mk hb
  have R0 := Kp.mk hr
  have HI0 : Kp (InIs (w.alloc (.cells (ec x0).toArray 115)) I I l s.2 ∧ Blk (w.alloc (.cells (ec x0).toArray 115)) R (.cells (ec x0).toArray 115) ∧ InStep I I l s.2 w (w.alloc (.cells (ec x0).toArray 115)) ∧ I < w.heap.size) := ⟨h.keep (more (Below.refl _ _) _), Blk.newAt _ hR, (InStep.same h).more (more (Below.refl _ _) _), h.lt⟩
  clear h hr hb
  go_enter Tryd.func63, Tryd.ntmps63
  go_wp2_with fail
  rw [← hR]
  refine (u8_any I I l s.2 (w.alloc (.cells (ec x0).toArray 115)) HI0.out.1).mono ?_
  rintro r w1 ⟨rfl, s1⟩
  obtain ⟨q1, q2, q3⟩ := R0.out.next 1
  rw [q1, show numOf (rawP B s.1 s.2 1) = nD B s from rfl]
  rw [q2] at s1
  have F1 : Kp (InIs w1 I I (nextL l s.2 1) (gs1 B s).2 ∧ Blk w1 R (.cells (ec x0).toArray 115) ∧ (∃ o, Turn I o w w1) ∧ I < w.heap.size) := ⟨s1.is, s1.keep HI0.out.2.1 (by have := HI0.out.2.2.2; omega), by obtain ⟨_, o, ho⟩ := HI0.out.2.2.1; obtain ⟨_, o2, ho2⟩ := s1; exact ⟨o2, ho.trans ho2⟩, HI0.out.2.2.2⟩
  have R1 : Kp (Rel (nextL l s.2 1) (gs1 B s).2 B (gs1 B s).1) := ⟨q3⟩
  have hd := num1 HBB.out s.1 s.2
  rw [show numOf (rawP B s.1 s.2 1) = nD B s from rfl] at hd
  obtain ⟨d, hde⟩ : ∃ d, d = nD B s := ⟨_, rfl⟩
  have HD := Kp.mk hde
  rw [← hde] at hd ⊢
  have kd : IntKind.i64.wrap d = d := IntWalk.i64_in _ (by omega)
  clear s1 q1 q2 q3 R0 HI0 hde hd hR
  generalize nextL l s.2 1 = l1 at *
  have hbd := build115 d
  obtain ⟨K, hK⟩ : ∃ K, K = w1.heap.size := ⟨_, rfl⟩
  have HK := Kp.mk hK
  have LK : Kp (R < w1.heap.size) := ⟨F1.out.2.1.lt⟩
  clear hK
  go_wp2_with (refine wpList_store_row rfl 115 (.tmp 3) (.tmp 7) rfl w1.heap.size (ec { x0 with d := d }).toArray rfl rfl 115 _ (Blk.newAt _ rfl) (info115s rfl) rfl (ec_one _) ?_; rw [← HK.out]; refine wpl_world (fun W => GE w I R K { x0 with d := d } l1 (gs1 B s).2 W) ⟨by rw [HK.out, World.setRow_alloc_new]; exact F1.out.1.keep (more (Below.refl _ _) _), by rw [HK.out, World.setRow_alloc_new]; exact F1.out.2.1.old _, by rw [HK.out, World.setRow_alloc_new]; exact Blk.new _ _, by rw [HK.out, World.setRow_alloc_new]; obtain ⟨o, ho⟩ := F1.out.2.2.1; exact ⟨o, ho.more (more (Below.refl _ _) _)⟩, F1.out.2.2.2, by rw [HRe.out]; exact Nat.le_refl _, by rw [HK.out]; exact LK.out, rfl⟩ ?_; rintro W2 h2; have G1 := Kp.mk h2; clear h2)
  refine (u32_any I I l1 (gs1 B s).2 W2 G1.out.i).mono ?_
  rintro r w2 ⟨rfl, s1⟩
  obtain ⟨q1, q2, q3⟩ := R1.out.next 4
  rw [q1, show numOf (rawP B (gs1 B s).1 (gs1 B s).2 4) = nE B s from rfl]
  rw [q2] at s1
  have G2 : Kp (GE w I R K { x0 with d := d } (nextL l1 (gs1 B s).2 4) (gs2 B s).2 w2) := ⟨G1.out.read s1⟩
  have R2 : Kp (Rel (nextL l1 (gs1 B s).2 4) (gs2 B s).2 B (gs2 B s).1) := ⟨q3⟩
  clear s1 q1 q2 q3
  generalize nextL l1 (gs1 B s).2 4 = l2 at *
  have he : 0 ≤ nE B s ∧ nE B s ≤ 4294967295 := num4 (rawP_len _ _ _ _) (rawP_bytes HBB.out _ _ _)
  obtain ⟨e, hee⟩ : ∃ e, e = nE B s := ⟨_, rfl⟩
  have HE := Kp.mk hee
  rw [← hee] at he ⊢
  have ke : IntKind.u32.wrap e = e := by simp [IntKind.wrap, IntKind.bits, IntKind.signed]; omega
  clear hee he
  go_wp2_with fail
  refine (u8_any I I l2 (gs2 B s).2 w2 G2.out.i).mono ?_
  rintro r w3 ⟨rfl, s1⟩
  obtain ⟨q1, q2, q3⟩ := R2.out.next 1
  rw [q1, show numOf (rawP B (gs2 B s).1 (gs2 B s).2 1) = nS B s from rfl]
  rw [q2] at s1
  have G3 : Kp (GE w I R K { x0 with d := d } (nextL l2 (gs2 B s).2 1) (gs3 B s).2 w3) := ⟨G2.out.read s1⟩
  have R3 : Kp (Rel (nextL l2 (gs2 B s).2 1) (gs3 B s).2 B (gs3 B s).1) := ⟨q3⟩
  clear s1 q1 q2 q3
  generalize nextL l2 (gs2 B s).2 1 = l3 at *
  have hs : 0 ≤ nS B s ∧ nS B s ≤ 255 := num1 HBB.out _ _
  obtain ⟨sq, hse⟩ : ∃ e, e = nS B s := ⟨_, rfl⟩
  have HSQ := Kp.mk hse
  rw [← hse] at hs ⊢
  have ks : IntKind.u32.wrap sq = sq := by simp [IntKind.wrap, IntKind.bits, IntKind.signed]; omega
  clear hse hs
  go_wp2_with fail
  refine (u8_any I I l3 (gs3 B s).2 w3 G3.out.i).mono ?_
  rintro r w4 ⟨rfl, s1⟩
  obtain ⟨q1, q2, q3⟩ := R3.out.next 1
  rw [q1, show numOf (rawP B (gs3 B s).1 (gs3 B s).2 1) = nM B s from rfl]
  rw [q2] at s1
  have G4 : Kp (GE w I R K { x0 with d := d } (nextL l3 (gs3 B s).2 1) (gs4 B s).2 w4) := ⟨G3.out.read s1⟩
  have R4 : Kp (Rel (nextL l3 (gs3 B s).2 1) (gs4 B s).2 B (gs4 B s).1) := ⟨q3⟩
  clear s1 q1 q2 q3
  generalize nextL l3 (gs3 B s).2 1 = l4 at *
  have hm : 0 ≤ nM B s ∧ nM B s ≤ 255 := num1 HBB.out _ _
  obtain ⟨m, hme⟩ : ∃ e, e = nM B s := ⟨_, rfl⟩
  have HM := Kp.mk hme
  rw [← hme] at hm ⊢
  have km : IntKind.i64.wrap m = m := IntWalk.i64_in _ (by omega)
  clear hme hm
  have c1 := G4.out.k.cell 1
  have c2 := G4.out.k.cell 2
  have c3 := G4.out.k.cell 3
  have c1' : w4.cell? ⟨K, 1, none⟩ = some (.int .u32 0) := c1
  have c2' : w4.cell? ⟨K, 2, none⟩ = some (.int .u32 0) := c2
  have c3' : w4.cell? ⟨K, 3, none⟩ = some (.int .i64 0) := c3
  have f1 := G4.out.k.frozen 1
  have f2 := G4.out.k.frozen 2
  have f3 := G4.out.k.frozen 3
  clear c1 c2 c3
  go_wp2_with fail
  clear c1' c2' c3' f1 f2 f3
  have G5 : Kp (GE w I R K ⟨d, e, sq, m, fill 16 [], none, 0, 0, none, 0, 0⟩ l4 (gs4 B s).2 (((w4.setCell ⟨K, 1, none⟩ (.int .u32 e)).setCell ⟨K, 2, none⟩ (.int .u32 sq)).setCell ⟨K, 3, none⟩ (.int .i64 m))) := ⟨by
    have hT := (((Turn.same G4.out.k).set 1 (.int .u32 e)).set 2 (.int .u32 sq)).set 3 (.int .i64 m)
    rw [ec_set1, ec_set2, ec_set3] at hT
    exact G4.out.put hT rfl⟩
  generalize ((w4.setCell ⟨K, 1, none⟩ (.int .u32 e)).setCell ⟨K, 2, none⟩ (.int .u32 sq)).setCell ⟨K, 3, none⟩ (.int .i64 m) = W4 at *
  clear G1 G2 G3 G4
  refine (isum_any I I l4 (gs4 B s).2 W4 G5.out.i).mono ?_
  rintro r w5 ⟨rfl, s1⟩
  obtain ⟨q1, q2, q3⟩ := R4.out.next 16
  rw [R4.out.sum, show rsumP B (gs4 B s).1 (gs4 B s).2 = nL B s from rfl]
  rw [q2] at s1
  have G6 : Kp (GE w I R K ⟨d, e, sq, m, fill 16 [], none, 0, 0, none, 0, 0⟩ (nextL l4 (gs4 B s).2 16) (gs5 B s).2 w5) := ⟨G5.out.read s1⟩
  have R5 : Kp (Rel (nextL l4 (gs4 B s).2 16) (gs5 B s).2 B (gs5 B s).1) := ⟨q3⟩
  clear s1 q1 q2 q3
  generalize nextL l4 (gs4 B s).2 16 = l5 at *
  obtain ⟨lf, hlf⟩ : ∃ lf, lf = nL B s := ⟨_, rfl⟩
  have HLF : Kp (lf = nL B s ∧ lf.length = 16) := ⟨hlf, by rw [hlf]; exact nL_len _ _⟩
  rw [← hlf]
  clear hlf
  have HTH : Kp (w5.there K 4 (bv lf).toArray.size) := ⟨by
    rw [List.size_toArray, List.length_map, HLF.out.2]
    intro j hj
    refine ⟨?_, G6.out.k.frozen (4 + j)⟩
    rw [G6.out.k.cell (4 + j), List.getElem?_toArray, List.getElem?_eq_getElem (by rw [ec_len G6.out.xl]; omega)]
    rfl⟩
  have HTU := Kp.mk (Turn.cells (b := K) (t := 115) (w := w5) (bv lf) 4 w5 (ec ⟨d, e, sq, m, fill 16 [], none, 0, 0, none, 0, 0⟩) (by rw [List.length_map, HLF.out.2, ec_len rfl]; omega) (Turn.same G6.out.k))
  have HIN : Kp ((Tryd.prog.info? 83).map (·.size) = some (bv lf).toArray.size) := ⟨by rw [List.size_toArray]; exact cellsL51 HLF.out.2⟩
  go_wp2_with (refine wpList_store_mid rfl 83 (.tmp 26) (.tmp 24) rfl K 4 (bv lf).toArray rfl rfl HTH.out HIN.out (bv_all lf) ?_; refine wpl_world (fun W => GE w I R K ⟨d, e, sq, m, lf, none, 0, 0, none, 0, 0⟩ l5 (gs5 B s).2 W) (by have h9 := HTU.out; rw [ec_splice rfl HLF.out.2] at h9; exact G6.out.put h9 HLF.out.2) ?_; rintro W5 h5; have G7 := Kp.mk h5; clear h5)
  clear HTH HTU HIN G5 G6
  refine (sums_any I I l5 (gs5 B s).2 3 W5 G7.out.i (by decide) (by decide)).mono ?_
  rintro r w6 ⟨vw, nw, rfl, hl6, hn6, ho6, s1⟩
  obtain ⟨q1, q2, q3⟩ := R5.out.sums G7.out.i.bytes HBB.out 3
  rw [q1, show rsumsP B (gs5 B s).1 (gs5 B s).2 3 = nW B s from rfl] at hl6 ho6
  rw [q2] at s1
  have G8 : Kp (GE w I R K ⟨d, e, sq, m, lf, none, 0, 0, none, 0, 0⟩ (sumsL l5 (gs5 B s).2 3) (gs6 B s).2 w6) := ⟨G7.out.read s1⟩
  have R6 : Kp (Rel (sumsL l5 (gs5 B s).2 3) (gs6 B s).2 B (gs6 B s).1) := ⟨q3⟩
  have LW5 : Kp (K < W5.heap.size ∧ I < W5.heap.size) := ⟨G7.out.k.lt, G7.out.i.lt⟩
  obtain ⟨aw, cw, rfl⟩ := row_shapeU ho6
  have HW6 : Kp ((nW B s).length = nw * 16 ∧ nw ≤ 65535 ∧ w6.ownsRow (K + 1) 83 16 (.slice aw nw cw) nw (bv (nW B s))) := ⟨hl6, hn6, ownsRow_base ho6 (by have := LW5.out; omega)⟩
  clear s1 q1 q2 q3 hl6 hn6 ho6 G7
  generalize sumsL l5 (gs5 B s).2 3 = l6 at *
  go_wp2_with fail
  refine (sums_any I I l6 (gs6 B s).2 6 w6 G8.out.i (by decide) (by decide)).mono ?_
  rintro r w7 ⟨vp, np, rfl, hl7, hn7, ho7, s1⟩
  obtain ⟨q1, q2, q3⟩ := R6.out.sums G8.out.i.bytes HBB.out 6
  rw [q1, show rsumsP B (gs6 B s).1 (gs6 B s).2 6 = nP B s from rfl] at hl7 ho7
  rw [q2] at s1
  have G9 : Kp (GE w I R K ⟨d, e, sq, m, lf, none, 0, 0, none, 0, 0⟩ (sumsL l6 (gs6 B s).2 6) (gs7 B s).2 w7) := ⟨G8.out.read s1⟩
  have R7 : Kp (Rel (sumsL l6 (gs6 B s).2 6) (gs7 B s).2 B (gs7 B s).1) := ⟨q3⟩
  obtain ⟨ap, cp, rfl⟩ := row_shapeU ho7
  have HP7 : Kp ((nP B s).length = np * 16 ∧ np ≤ 65535 ∧ w7.ownsRow (K + 1) 83 16 (.slice ap np cp) np (bv (nP B s))) := ⟨hl7, hn7, ownsRow_base ho7 (by have := G8.out.k.lt; omega)⟩
  have HW7 : Kp ((nW B s).length = nw * 16 ∧ nw ≤ 65535 ∧ w7.ownsRow (K + 1) 83 16 (.slice aw nw cw) nw (bv (nW B s))) := ⟨HW6.out.1, HW6.out.2.1, by obtain ⟨_, o, ho⟩ := s1; exact ownsRow_turn HW6.out.2.2 ho (by have := G8.out.iw; have := G8.out.wr; have := G8.out.rk; omega)⟩
  clear s1 q1 q2 q3 hl7 hn7 ho7 G8 HW6 LW5
  generalize sumsL l6 (gs6 B s).2 6 = l7 at *
  have c20 : w7.cell? ⟨K, 20, none⟩ = some (.slice none 0 0) := (G9.out.k.cell 20).trans (by rw [List.getElem?_toArray]; exact ec_20 HLF.out.2)
  have c21 : w7.cell? ⟨K, 21, none⟩ = some (.slice none 0 0) := (G9.out.k.cell 21).trans (by rw [List.getElem?_toArray]; exact ec_21 HLF.out.2)
  have f20 := G9.out.k.frozen 20
  have f21 := G9.out.k.frozen 21
  have HT9 := Kp.mk (((Turn.same G9.out.k).set 20 (.slice aw nw cw)).set 21 (.slice ap np cp))
  have HG9 : Kp (GE w I R K ⟨d, e, sq, m, lf, aw, nw, cw, ap, np, cp⟩ l7 (gs7 B s).2 ((w7.setCell ⟨K, 20, none⟩ (.slice aw nw cw)).setCell ⟨K, 21, none⟩ (.slice ap np cp))) := ⟨by
    have h9 := HT9.out
    rw [ec_set20 HLF.out.2, ec_set21 (by exact HLF.out.2)] at h9
    exact G9.out.put h9 HLF.out.2⟩
  have HP9 : Kp (((w7.setCell ⟨K, 20, none⟩ (.slice aw nw cw)).setCell ⟨K, 21, none⟩ (.slice ap np cp)).ownsRow (K + 1) 83 16 (.slice ap np cp) np (bv (nP B s)) ∧ ((w7.setCell ⟨K, 20, none⟩ (.slice aw nw cw)).setCell ⟨K, 21, none⟩ (.slice ap np cp)).ownsRow (K + 1) 83 16 (.slice aw nw cw) nw (bv (nW B s))) := ⟨ownsRow_turn HP7.out.2.2 HT9.out (by omega), ownsRow_turn HW7.out.2.2 HT9.out (by omega)⟩
  have HIX : Kp ((Tryd.prog.info? 115).map (·.size) = some (ec ⟨d, e, sq, m, lf, aw, nw, cw, ap, np, cp⟩).toArray.size) := ⟨info115s HLF.out.2⟩
  have HS22 : Kp ((ec x0).toArray.size = (ec ⟨d, e, sq, m, lf, aw, nw, cw, ap, np, cp⟩).toArray.size) := ⟨by rw [List.size_toArray, List.size_toArray, ec_len rfl, ec_len (by exact HLF.out.2)]⟩
  go_wp2_with (first
    | (refine wpList_load_row rfl 115 (.tmp 3) rfl K rfl 115 (ec ⟨d, e, sq, m, lf, aw, nw, cw, ap, np, cp⟩).toArray (0, 0) _ HG9.out.k Tryd.underlying115 rfl HIX.out ?_)
    | (refine wpList_store_row rfl 115 (.tmp 2) (.tmp 35) rfl R (ec ⟨d, e, sq, m, lf, aw, nw, cw, ap, np, cp⟩).toArray rfl rfl 115 _ HG9.out.r HIX.out HS22.out (ec_one _) ?_; refine wpl_world (fun W => Blk W R (.cells (ec ⟨d, e, sq, m, lf, aw, nw, cw, ap, np, cp⟩).toArray 115) ∧ InStep I I l7 (gs7 B s).2 w W ∧ W.ownsRow (K + 1) 83 16 (.slice ap np cp) np (bv (nP B s)) ∧ W.ownsRow (K + 1) 83 16 (.slice aw nw cw) nw (bv (nW B s))) ⟨(Turn.ofRow HG9.out.r _).blk, ⟨HG9.out.i.turn (Turn.ofRow HG9.out.r _) (by have := HG9.out.iw; have := HG9.out.wr; omega) (by have := HG9.out.iw; have := HG9.out.wr; omega), by obtain ⟨o, ho⟩ := HG9.out.t; exact ⟨o, ho.upto ((Turn.ofRow HG9.out.r _).below (B := w.heap.size) HG9.out.wr ho.size) (Nat.le_refl _) HG9.out.iw⟩⟩, ownsRow_turn HP9.out.1 (Turn.ofRow HG9.out.r _) (by have := HG9.out.rk; omega), ownsRow_turn HP9.out.2 (Turn.ofRow HG9.out.r _) (by have := HG9.out.rk; omega)⟩ ?_; rintro W9 h9; have GF := Kp.mk h9; clear h9))
  exact bodyPost_ret (results_row rfl _ _ R 115 (ec ⟨d, e, sq, m, lf, aw, nw, cw, ap, np, cp⟩).toArray (0, 0) _ rfl GF.out.1 Tryd.underlying115 rfl HIX.out) rfl ⟨⟨d, e, sq, m, lf, aw, nw, cw, ap, np, cp⟩, rfl, ⟨HD.out, HE.out, HSQ.out, HM.out, HLF.out.1⟩, ⟨HW7.out.1, HW7.out.2.1, ownsRow_base GF.out.2.2.2 (by have := HG9.out.wr; have := HG9.out.rk; omega)⟩, ⟨HP7.out.1, HP7.out.2.1, ownsRow_base GF.out.2.2.1 (by have := HG9.out.wr; have := HG9.out.rk; omega)⟩, l7, GF.out.2.1, R7.out⟩
end Go.Proofs.YtgabjmmmiogfjaaDoor
