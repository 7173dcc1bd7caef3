/-
  frame.getEntry.
  Credentials, to and fro.
  What an update's bytes are; rows of entries of the call's own.
-/
import Derived.Test.YtioeaknhcfkfcaaBu09
import Derived.Deep.AppendLies
namespace Go.Proofs.Ytioeaknhcfkfcaa
open Go.RowKit

theorem num4 {l : List Int} (h : l.length ≤ 4) (hb : Bytes l) : 0 ≤ numOf l ∧ numOf l ≤ 4294967295 := by
  match l, h with
  | [], _ => decide
  | [a], _ =>
    have := hb a (by simp)
    simp only [numOf, List.foldl_cons, List.foldl_nil]
    omega
  | [a, b], _ =>
    have := hb a (by simp)
    have := hb b (by simp)
    simp only [numOf, List.foldl_cons, List.foldl_nil]
    omega
  | [a, b, c], _ =>
    have := hb a (by simp)
    have := hb b (by simp)
    have := hb c (by simp)
    simp only [numOf, List.foldl_cons, List.foldl_nil]
    omega
  | [a, b, c, d], _ =>
    have := hb a (by simp)
    have := hb b (by simp)
    have := hb c (by simp)
    have := hb d (by simp)
    simp only [numOf, List.foldl_cons, List.foldl_nil]
    omega
theorem num1 {B : List Int} (hb : Bytes B) (a : Nat) (e : Int) : 0 ≤ numOf (rawP B a e 1) ∧ numOf (rawP B a e 1) ≤ 255 := numOf_one (rawP_len _ _ _ _) (rawP_bytes hb _ _ _)
theorem nL_len (B : List Int) (s : Nat × Int) : (nL B s).length = 16 := rsumP_len _ _ _
theorem build115 (d : Int) (w : World) : (Instr.build 76 #[(0, .int .i64 d)]).run Try.prog w = .ok (.agg (ec { x0 with d := d }).toArray) w := run_build w 76 #[(0, .int .i64 d)] _ (by kernel_rfl)
def EntPost (I : Nat) (B : List Int) (s : Nat × Int) (w : World) (r : Ending) (w' : World) : Prop :=
  ∃ x : EV, r = .returned (ecV x) ∧ (x.d = nD B s ∧ x.e = nE B s ∧ x.s = nS B s ∧ x.m = nM B s ∧ x.lf = nL B s) ∧
    ((nW B s).length = x.wn * 16 ∧ x.wn ≤ 65535 ∧ w'.ownsRow w.heap.size 70 16 (.slice x.wa x.wn x.wc) x.wn (bv (nW B s))) ∧ ((nP B s).length = x.pn * 16 ∧ x.pn ≤ 65535 ∧ w'.ownsRow w.heap.size 70 16 (.slice x.pa x.pn x.pc) x.pn (bv (nP B s))) ∧
    ∃ l', InStep I I l' (gs7 B s).2 w w' ∧ Rel l' (gs7 B s).2 B (gs7 B s).1
theorem row_shapeU {w : World} {base size n : Nat} {t : TypeId} {v : Value} {xs : List Value} (h : w.ownsRow base t size v n xs) : ∃ a c, v = .slice a n c := by
  rcases h.2 with ⟨rfl, hn⟩ | ⟨g, cap, cur, rfl, _⟩
  · exact ⟨none, 0, by rw [hn]⟩
  · exact ⟨_, cap, rfl⟩
set_option maxRecDepth 100000 in
set_option maxHeartbeats 8000000 in
theorem getEntry_any (I : Nat) (l B : List Int) (s : Nat × Int) (w : World) (h : InIs w I I l s.2) (hr : Rel l s.2 B s.1) (hb : Bytes B) : Calls Try.prog 34 #[.pointer (some ⟨I, 0, none⟩)] w (EntPost I B s w) := by
  obtain ⟨R, hR⟩ : ∃ R, R = w.heap.size := ⟨_, rfl⟩
  have HRe := Kp.mk hR
  have HBB := Kp.mk hb
  have R0 := Kp.mk hr
  have HI0 : Kp (InIs (w.alloc (.cells (ec x0).toArray 76)) I I l s.2 ∧ Blk (w.alloc (.cells (ec x0).toArray 76)) R (.cells (ec x0).toArray 76) ∧ InStep I I l s.2 w (w.alloc (.cells (ec x0).toArray 76)) ∧ I < w.heap.size) := ⟨h.keep (more (Below.refl _ _) _), Blk.newAt _ hR, (InStep.same h).more (more (Below.refl _ _) _), h.lt⟩
  clear h hr hb
  go_enter Try.func34, Try.ntmps34
  go_wp2_with fail
  rw [← hR]
  refine (u8_any I I l s.2 (w.alloc (.cells (ec x0).toArray 76)) HI0.out.1).mono ?_
  rintro r w1 ⟨rfl, s1⟩
  obtain ⟨q1, q2, q3⟩ := R0.out.next 1
  rw [q1, show numOf (rawP B s.1 s.2 1) = nD B s from rfl]
  rw [q2] at s1
  have F1 : Kp (InIs w1 I I (nextL l s.2 1) (gs1 B s).2 ∧ Blk w1 R (.cells (ec x0).toArray 76) ∧ (∃ o, Turn I o w w1) ∧ I < w.heap.size) := ⟨s1.is, s1.keep HI0.out.2.1 (by have := HI0.out.2.2.2; omega), by obtain ⟨_, o, ho⟩ := HI0.out.2.2.1; obtain ⟨_, o2, ho2⟩ := s1; exact ⟨o2, ho.trans ho2⟩, HI0.out.2.2.2⟩
  have R1 : Kp (Rel (nextL l s.2 1) (gs1 B s).2 B (gs1 B s).1) := ⟨q3⟩
  have hd := num1 HBB.out s.1 s.2
  rw [show numOf (rawP B s.1 s.2 1) = nD B s from rfl] at hd
  obtain ⟨d, hde⟩ : ∃ d, d = nD B s := ⟨_, rfl⟩
  have HD := Kp.mk hde
  rw [← hde] at hd ⊢
  have kd : IntKind.i64.wrap d = d := IntWalk.i64_in _ (by omega)
  clear s1 q1 q2 q3 R0 HI0 hde hd hR
  generalize nextL l s.2 1 = l1 at *
  have hbd := build115 d
  obtain ⟨K, hK⟩ : ∃ K, K = w1.heap.size := ⟨_, rfl⟩
  have HK := Kp.mk hK
  have LK : Kp (R < w1.heap.size) := ⟨F1.out.2.1.lt⟩
  clear hK
  go_wp2_with (refine wpList_store_row rfl 76 (.tmp 3) (.tmp 7) rfl w1.heap.size (ec { x0 with d := d }).toArray rfl rfl 76 _ (Blk.newAt _ rfl) (info115s rfl) rfl (ec_one _) ?_; rw [← HK.out]; refine wpl_world (fun W => GE w I R K { x0 with d := d } l1 (gs1 B s).2 W) ⟨by rw [HK.out, World.setRow_alloc_new]; exact F1.out.1.keep (more (Below.refl _ _) _), by rw [HK.out, World.setRow_alloc_new]; exact F1.out.2.1.old _, by rw [HK.out, World.setRow_alloc_new]; exact Blk.new _ _, by rw [HK.out, World.setRow_alloc_new]; obtain ⟨o, ho⟩ := F1.out.2.2.1; exact ⟨o, ho.more (more (Below.refl _ _) _)⟩, F1.out.2.2.2, by rw [HRe.out]; exact Nat.le_refl _, by rw [HK.out]; exact LK.out, rfl⟩ ?_; rintro W2 h2; have G1 := Kp.mk h2; clear h2)
  refine (u32_any I I l1 (gs1 B s).2 W2 G1.out.i).mono ?_
  rintro r w2 ⟨rfl, s1⟩
  obtain ⟨q1, q2, q3⟩ := R1.out.next 4
  rw [q1, show numOf (rawP B (gs1 B s).1 (gs1 B s).2 4) = nE B s from rfl]
  rw [q2] at s1
  have G2 : Kp (GE w I R K { x0 with d := d } (nextL l1 (gs1 B s).2 4) (gs2 B s).2 w2) := ⟨G1.out.read s1⟩
  have R2 : Kp (Rel (nextL l1 (gs1 B s).2 4) (gs2 B s).2 B (gs2 B s).1) := ⟨q3⟩
  clear s1 q1 q2 q3
  generalize nextL l1 (gs1 B s).2 4 = l2 at *
  have he : 0 ≤ nE B s ∧ nE B s ≤ 4294967295 := num4 (rawP_len _ _ _ _) (rawP_bytes HBB.out _ _ _)
  obtain ⟨e, hee⟩ : ∃ e, e = nE B s := ⟨_, rfl⟩
  have HE := Kp.mk hee
  rw [← hee] at he ⊢
  have ke : IntKind.u32.wrap e = e := by simp [IntKind.wrap, IntKind.bits, IntKind.signed]; omega
  clear hee he
  go_wp2_with fail
  refine (u8_any I I l2 (gs2 B s).2 w2 G2.out.i).mono ?_
  rintro r w3 ⟨rfl, s1⟩
  obtain ⟨q1, q2, q3⟩ := R2.out.next 1
  rw [q1, show numOf (rawP B (gs2 B s).1 (gs2 B s).2 1) = nS B s from rfl]
  rw [q2] at s1
  have G3 : Kp (GE w I R K { x0 with d := d } (nextL l2 (gs2 B s).2 1) (gs3 B s).2 w3) := ⟨G2.out.read s1⟩
  have R3 : Kp (Rel (nextL l2 (gs2 B s).2 1) (gs3 B s).2 B (gs3 B s).1) := ⟨q3⟩
  clear s1 q1 q2 q3
  generalize nextL l2 (gs2 B s).2 1 = l3 at *
  have hs : 0 ≤ nS B s ∧ nS B s ≤ 255 := num1 HBB.out _ _
  obtain ⟨sq, hse⟩ : ∃ e, e = nS B s := ⟨_, rfl⟩
  have HSQ := Kp.mk hse
  rw [← hse] at hs ⊢
  have ks : IntKind.u32.wrap sq = sq := by simp [IntKind.wrap, IntKind.bits, IntKind.signed]; omega
  clear hse hs
  go_wp2_with fail
  refine (u8_any I I l3 (gs3 B s).2 w3 G3.out.i).mono ?_
  rintro r w4 ⟨rfl, s1⟩
  obtain ⟨q1, q2, q3⟩ := R3.out.next 1
  rw [q1, show numOf (rawP B (gs3 B s).1 (gs3 B s).2 1) = nM B s from rfl]
  rw [q2] at s1
  have G4 : Kp (GE w I R K { x0 with d := d } (nextL l3 (gs3 B s).2 1) (gs4 B s).2 w4) := ⟨G3.out.read s1⟩
  have R4 : Kp (Rel (nextL l3 (gs3 B s).2 1) (gs4 B s).2 B (gs4 B s).1) := ⟨q3⟩
  clear s1 q1 q2 q3
  generalize nextL l3 (gs3 B s).2 1 = l4 at *
  have hm : 0 ≤ nM B s ∧ nM B s ≤ 255 := num1 HBB.out _ _
  obtain ⟨m, hme⟩ : ∃ e, e = nM B s := ⟨_, rfl⟩
  have HM := Kp.mk hme
  rw [← hme] at hm ⊢
  have km : IntKind.i64.wrap m = m := IntWalk.i64_in _ (by omega)
  clear hme hm
  have c1 := G4.out.k.cell 1
  have c2 := G4.out.k.cell 2
  have c3 := G4.out.k.cell 3
  have c1' : w4.cell? ⟨K, 1, none⟩ = some (.int .u32 0) := c1
  have c2' : w4.cell? ⟨K, 2, none⟩ = some (.int .u32 0) := c2
  have c3' : w4.cell? ⟨K, 3, none⟩ = some (.int .i64 0) := c3
  have f1 := G4.out.k.frozen 1
  have f2 := G4.out.k.frozen 2
  have f3 := G4.out.k.frozen 3
  clear c1 c2 c3
  go_wp2_with fail
  clear c1' c2' c3' f1 f2 f3
  have G5 : Kp (GE w I R K ⟨d, e, sq, m, fill 16 [], none, 0, 0, none, 0, 0⟩ l4 (gs4 B s).2 (((w4.setCell ⟨K, 1, none⟩ (.int .u32 e)).setCell ⟨K, 2, none⟩ (.int .u32 sq)).setCell ⟨K, 3, none⟩ (.int .i64 m))) := ⟨by
    have hT := (((Turn.same G4.out.k).set 1 (.int .u32 e)).set 2 (.int .u32 sq)).set 3 (.int .i64 m)
    rw [ec_set1, ec_set2, ec_set3] at hT
    exact G4.out.put hT rfl⟩
  generalize ((w4.setCell ⟨K, 1, none⟩ (.int .u32 e)).setCell ⟨K, 2, none⟩ (.int .u32 sq)).setCell ⟨K, 3, none⟩ (.int .i64 m) = W4 at *
  clear G1 G2 G3 G4
  refine (isum_any I I l4 (gs4 B s).2 W4 G5.out.i).mono ?_
  rintro r w5 ⟨rfl, s1⟩
  obtain ⟨q1, q2, q3⟩ := R4.out.next 16
  rw [R4.out.sum, show rsumP B (gs4 B s).1 (gs4 B s).2 = nL B s from rfl]
  rw [q2] at s1
  have G6 : Kp (GE w I R K ⟨d, e, sq, m, fill 16 [], none, 0, 0, none, 0, 0⟩ (nextL l4 (gs4 B s).2 16) (gs5 B s).2 w5) := ⟨G5.out.read s1⟩
  have R5 : Kp (Rel (nextL l4 (gs4 B s).2 16) (gs5 B s).2 B (gs5 B s).1) := ⟨q3⟩
  clear s1 q1 q2 q3
  generalize nextL l4 (gs4 B s).2 16 = l5 at *
  obtain ⟨lf, hlf⟩ : ∃ lf, lf = nL B s := ⟨_, rfl⟩
  have HLF : Kp (lf = nL B s ∧ lf.length = 16) := ⟨hlf, by rw [hlf]; exact nL_len _ _⟩
  rw [← hlf]
  clear hlf
  have HTH : Kp (w5.there K 4 (bv lf).toArray.size) := ⟨by
    rw [List.size_toArray, List.length_map, HLF.out.2]
    intro j hj
    refine ⟨?_, G6.out.k.frozen (4 + j)⟩
    rw [G6.out.k.cell (4 + j), List.getElem?_toArray, List.getElem?_eq_getElem (by rw [ec_len G6.out.xl]; omega)]
    rfl⟩
  have HTU := Kp.mk (Turn.cells (b := K) (t := 76) (w := w5) (bv lf) 4 w5 (ec ⟨d, e, sq, m, fill 16 [], none, 0, 0, none, 0, 0⟩) (by rw [List.length_map, HLF.out.2, ec_len rfl]; omega) (Turn.same G6.out.k))
  have HIN : Kp ((Try.prog.info? 70).map (·.size) = some (bv lf).toArray.size) := ⟨by rw [List.size_toArray]; exact cellsL51 HLF.out.2⟩
  go_wp2_with (refine wpList_store_mid rfl 70 (.tmp 26) (.tmp 24) rfl K 4 (bv lf).toArray rfl rfl HTH.out HIN.out (bv_all lf) ?_; refine wpl_world (fun W => GE w I R K ⟨d, e, sq, m, lf, none, 0, 0, none, 0, 0⟩ l5 (gs5 B s).2 W) (by have h9 := HTU.out; rw [ec_splice rfl HLF.out.2] at h9; exact G6.out.put h9 HLF.out.2) ?_; rintro W5 h5; have G7 := Kp.mk h5; clear h5)
  clear HTH HTU HIN G5 G6
  refine (sums_any I I l5 (gs5 B s).2 3 W5 G7.out.i (by decide) (by decide)).mono ?_
  rintro r w6 ⟨vw, nw, rfl, hl6, hn6, ho6, s1⟩
  obtain ⟨q1, q2, q3⟩ := R5.out.sums G7.out.i.bytes HBB.out 3
  rw [q1, show rsumsP B (gs5 B s).1 (gs5 B s).2 3 = nW B s from rfl] at hl6 ho6
  rw [q2] at s1
  have G8 : Kp (GE w I R K ⟨d, e, sq, m, lf, none, 0, 0, none, 0, 0⟩ (sumsL l5 (gs5 B s).2 3) (gs6 B s).2 w6) := ⟨G7.out.read s1⟩
  have R6 : Kp (Rel (sumsL l5 (gs5 B s).2 3) (gs6 B s).2 B (gs6 B s).1) := ⟨q3⟩
  have LW5 : Kp (K < W5.heap.size ∧ I < W5.heap.size) := ⟨G7.out.k.lt, G7.out.i.lt⟩
  obtain ⟨aw, cw, rfl⟩ := row_shapeU ho6
  have HW6 : Kp ((nW B s).length = nw * 16 ∧ nw ≤ 65535 ∧ w6.ownsRow (K + 1) 70 16 (.slice aw nw cw) nw (bv (nW B s))) := ⟨hl6, hn6, ownsRow_base ho6 (by have := LW5.out; omega)⟩
  clear s1 q1 q2 q3 hl6 hn6 ho6 G7
  generalize sumsL l5 (gs5 B s).2 3 = l6 at *
  go_wp2_with fail
  refine (sums_any I I l6 (gs6 B s).2 6 w6 G8.out.i (by decide) (by decide)).mono ?_
  rintro r w7 ⟨vp, np, rfl, hl7, hn7, ho7, s1⟩
  obtain ⟨q1, q2, q3⟩ := R6.out.sums G8.out.i.bytes HBB.out 6
  rw [q1, show rsumsP B (gs6 B s).1 (gs6 B s).2 6 = nP B s from rfl] at hl7 ho7
  rw [q2] at s1
  have G9 : Kp (GE w I R K ⟨d, e, sq, m, lf, none, 0, 0, none, 0, 0⟩ (sumsL l6 (gs6 B s).2 6) (gs7 B s).2 w7) := ⟨G8.out.read s1⟩
  have R7 : Kp (Rel (sumsL l6 (gs6 B s).2 6) (gs7 B s).2 B (gs7 B s).1) := ⟨q3⟩
  obtain ⟨ap, cp, rfl⟩ := row_shapeU ho7
  have HP7 : Kp ((nP B s).length = np * 16 ∧ np ≤ 65535 ∧ w7.ownsRow (K + 1) 70 16 (.slice ap np cp) np (bv (nP B s))) := ⟨hl7, hn7, ownsRow_base ho7 (by have := G8.out.k.lt; omega)⟩
  have HW7 : Kp ((nW B s).length = nw * 16 ∧ nw ≤ 65535 ∧ w7.ownsRow (K + 1) 70 16 (.slice aw nw cw) nw (bv (nW B s))) := ⟨HW6.out.1, HW6.out.2.1, by obtain ⟨_, o, ho⟩ := s1; exact ownsRow_turn HW6.out.2.2 ho (by have := G8.out.iw; have := G8.out.wr; have := G8.out.rk; omega)⟩
  clear s1 q1 q2 q3 hl7 hn7 ho7 G8 HW6 LW5
  generalize sumsL l6 (gs6 B s).2 6 = l7 at *
  have c20 : w7.cell? ⟨K, 20, none⟩ = some (.slice none 0 0) := (G9.out.k.cell 20).trans (by rw [List.getElem?_toArray]; exact ec_20 HLF.out.2)
  have c21 : w7.cell? ⟨K, 21, none⟩ = some (.slice none 0 0) := (G9.out.k.cell 21).trans (by rw [List.getElem?_toArray]; exact ec_21 HLF.out.2)
  have f20 := G9.out.k.frozen 20
  have f21 := G9.out.k.frozen 21
  have HT9 := Kp.mk (((Turn.same G9.out.k).set 20 (.slice aw nw cw)).set 21 (.slice ap np cp))
  have HG9 : Kp (GE w I R K ⟨d, e, sq, m, lf, aw, nw, cw, ap, np, cp⟩ l7 (gs7 B s).2 ((w7.setCell ⟨K, 20, none⟩ (.slice aw nw cw)).setCell ⟨K, 21, none⟩ (.slice ap np cp))) := ⟨by
    have h9 := HT9.out
    rw [ec_set20 HLF.out.2, ec_set21 (by exact HLF.out.2)] at h9
    exact G9.out.put h9 HLF.out.2⟩
  have HP9 : Kp (((w7.setCell ⟨K, 20, none⟩ (.slice aw nw cw)).setCell ⟨K, 21, none⟩ (.slice ap np cp)).ownsRow (K + 1) 70 16 (.slice ap np cp) np (bv (nP B s)) ∧ ((w7.setCell ⟨K, 20, none⟩ (.slice aw nw cw)).setCell ⟨K, 21, none⟩ (.slice ap np cp)).ownsRow (K + 1) 70 16 (.slice aw nw cw) nw (bv (nW B s))) := ⟨ownsRow_turn HP7.out.2.2 HT9.out (by omega), ownsRow_turn HW7.out.2.2 HT9.out (by omega)⟩
  have HIX : Kp ((Try.prog.info? 76).map (·.size) = some (ec ⟨d, e, sq, m, lf, aw, nw, cw, ap, np, cp⟩).toArray.size) := ⟨info115s HLF.out.2⟩
  have HS22 : Kp ((ec x0).toArray.size = (ec ⟨d, e, sq, m, lf, aw, nw, cw, ap, np, cp⟩).toArray.size) := ⟨by rw [List.size_toArray, List.size_toArray, ec_len rfl, ec_len (by exact HLF.out.2)]⟩
  go_wp2_with (first
    | (refine wpList_load_row rfl 76 (.tmp 3) rfl K rfl 76 (ec ⟨d, e, sq, m, lf, aw, nw, cw, ap, np, cp⟩).toArray (0, 0) _ HG9.out.k Try.underlying76 rfl HIX.out ?_)
    | (refine wpList_store_row rfl 76 (.tmp 2) (.tmp 35) rfl R (ec ⟨d, e, sq, m, lf, aw, nw, cw, ap, np, cp⟩).toArray rfl rfl 76 _ HG9.out.r HIX.out HS22.out (ec_one _) ?_; refine wpl_world (fun W => Blk W R (.cells (ec ⟨d, e, sq, m, lf, aw, nw, cw, ap, np, cp⟩).toArray 76) ∧ InStep I I l7 (gs7 B s).2 w W ∧ W.ownsRow (K + 1) 70 16 (.slice ap np cp) np (bv (nP B s)) ∧ W.ownsRow (K + 1) 70 16 (.slice aw nw cw) nw (bv (nW B s))) ⟨(Turn.ofRow HG9.out.r _).blk, ⟨HG9.out.i.turn (Turn.ofRow HG9.out.r _) (by have := HG9.out.iw; have := HG9.out.wr; omega) (by have := HG9.out.iw; have := HG9.out.wr; omega), by obtain ⟨o, ho⟩ := HG9.out.t; exact ⟨o, ho.upto ((Turn.ofRow HG9.out.r _).below (B := w.heap.size) HG9.out.wr ho.size) (Nat.le_refl _) HG9.out.iw⟩⟩, ownsRow_turn HP9.out.1 (Turn.ofRow HG9.out.r _) (by have := HG9.out.rk; omega), ownsRow_turn HP9.out.2 (Turn.ofRow HG9.out.r _) (by have := HG9.out.rk; omega)⟩ ?_; rintro W9 h9; have GF := Kp.mk h9; clear h9))
  exact bodyPost_ret (results_row rfl _ _ R 76 (ec ⟨d, e, sq, m, lf, aw, nw, cw, ap, np, cp⟩).toArray (0, 0) _ rfl GF.out.1 Try.underlying76 rfl HIX.out) rfl ⟨⟨d, e, sq, m, lf, aw, nw, cw, ap, np, cp⟩, rfl, ⟨HD.out, HE.out, HSQ.out, HM.out, HLF.out.1⟩, ⟨HW7.out.1, HW7.out.2.1, ownsRow_base GF.out.2.2.2 (by have := HG9.out.wr; have := HG9.out.rk; omega)⟩, ⟨HP7.out.1, HP7.out.2.1, ownsRow_base GF.out.2.2.1 (by have := HG9.out.wr; have := HG9.out.rk; omega)⟩, l7, GF.out.2.1, R7.out⟩
end Go.Proofs.Ytioeaknhcfkfcaa

namespace Go.Proofs.Ytioeaknhcfkfcaa
open Go.RowKit

/-- A credential's cells. -/
def cc (lf : List Int) (a : Option Addr) (n c : Nat) (b : Option Addr) (m d : Nat) : List Value := bv lf ++ [.slice a n c, .slice b m d]
theorem cc_len {lf : List Int} (h : lf.length = 16) (a : Option Addr) (n c : Nat) (b : Option Addr) (m d : Nat) : (cc lf a n c b m d).length = 18 := by simp [cc, h]
theorem cc_16 {lf : List Int} (h : lf.length = 16) (a : Option Addr) (n c : Nat) (b : Option Addr) (m d : Nat) : (cc lf a n c b m d)[16]? = some (.slice a n c) := by simp [cc, List.getElem?_append, h]
theorem cc_17 {lf : List Int} (h : lf.length = 16) (a : Option Addr) (n c : Nat) (b : Option Addr) (m d : Nat) : (cc lf a n c b m d)[17]? = some (.slice b m d) := by simp [cc, List.getElem?_append, h]
theorem cc_one (lf : List Int) (a : Option Addr) (n c : Nat) (b : Option Addr) (m d : Nat) : (cc lf a n c b m d).toArray.all (·.oneCell') = true := by
  refine all_oneCell_toArray fun v hv => ?_
  unfold cc at hv
  rw [List.mem_append] at hv
  rcases hv with hv | hv
  · exact bv_one _ v hv
  · simp at hv
    rcases hv with rfl | rfl <;> rfl
theorem info103s {lf : List Int} (h : lf.length = 16) (a : Option Addr) (n c : Nat) (b : Option Addr) (m d : Nat) : (Try.prog.info? 30).map (·.size) = some (cc lf a n c b m d).toArray.size := by
  rw [List.size_toArray, cc_len h]
  kernel_rfl
theorem info113s {lf : List Int} (h : lf.length = 16) (a : Option Addr) (n c : Nat) (b : Option Addr) (m d : Nat) : (Try.prog.info? 73).map (·.size) = some (cc lf a n c b m d).toArray.size := by
  rw [List.size_toArray, cc_len h]
  kernel_rfl
theorem build113 {lf : List Int} (h : lf.length = 16) (a : Option Addr) (n c : Nat) (b : Option Addr) (m d : Nat) (w : World) : (Instr.build 73 #[(0, sumV lf), (1, .slice a n c), (2, .slice b m d)]).run Try.prog w = .ok (.agg (cc lf a n c b m d).toArray) w := by
  obtain ⟨y0, y1, y2, y3, y4, y5, y6, y7, y8, y9, y10, y11, y12, y13, y14, y15, rfl⟩ := list16 h
  exact run_build w 73 _ _ (by kernel_rfl)
theorem build103 {lf : List Int} (h : lf.length = 16) (a : Option Addr) (n c : Nat) (b : Option Addr) (m d : Nat) (w : World) : (Instr.build 30 #[(0, sumV lf), (1, .slice a n c), (2, .slice b m d)]).run Try.prog w = .ok (.agg (cc lf a n c b m d).toArray) w := by
  obtain ⟨y0, y1, y2, y3, y4, y5, y6, y7, y8, y9, y10, y11, y12, y13, y14, y15, rfl⟩ := list16 h
  exact run_build w 30 _ _ (by kernel_rfl)
theorem exec_build3 {P : Program} {o : Oper} {a : Act} {w : World} {t : TypeId} {x y z : Operand} {u v s r : Value} (ho : o.op = .build t #[(0, x), (1, y), (2, z)]) (hx : a.eval x = u) (hy : a.eval y = v) (hz : a.eval z = s)
    (hr : (Instr.build t #[(0, u), (1, v), (2, s)]).run P w = .ok r w) : (execOp a.eval o).run P w = .ok (.value r) w := by
  subst hx hy hz
  unfold execOp
  simp only [ho, Sem.run_bind, List.map_toArray, List.map_cons, List.map_nil, hr, Result.andThen_ok, Sem.run_pure]
def CredPost (t : TypeId) (lf : List Int) (wn : Nat) (wl : List Int) (pn : Nat) (pl : List Int) (w : World) (r : Ending) (w' : World) : Prop :=
  ∃ a c b d, r = .returned (.agg (cc lf a wn c b pn d).toArray) ∧ w'.ownsRow w.heap.size t 16 (.slice a wn c) wn (bv wl) ∧ w'.ownsRow w.heap.size t 16 (.slice b pn d) pn (bv pl) ∧ Below w.heap.size w w'
abbrev cz : List Value := cc (fill 16 []) none 0 0 none 0 0
theorem ex_worldU {Q : Exit → Act → World → Prop} {x : Exit} {a : Act} {w : World} (F : World → Prop) (hF : F w) (h : ∀ w2, F w2 → Q x a w2) : Q x a w := h w hF
set_option maxRecDepth 100000 in
set_option maxHeartbeats 8000000 in
theorem tocred_any (lf : List Int) (wa : Option Addr) (wn wc : Nat) (pa : Option Addr) (pn pc : Nat) (wl pl : List Int) (w : World) (hl : lf.length = 16) (hw : HoldsS w (.slice wa wn wc) wn wl) (hp : HoldsS w (.slice pa pn pc) pn pl) (hn : wn ≤ 1000000 ∧ pn ≤ 1000000) :
    Calls Try.prog 22 #[.agg (cc lf wa wn wc pa pn pc).toArray] w (CredPost 70 lf wn wl pn pl w) := by
  have hC := fun (w : World) => box_row (t := 30) (cs := cc lf wa wn wc pa pn pc) (info103s hl _ _ _ _ _ _) w
  obtain ⟨A, hA⟩ : ∃ A, A = w.heap.size := ⟨_, rfl⟩
  have HAe := Kp.mk hA
  have HLF := Kp.mk hl
  have HN := Kp.mk hn
  have H0 : Kp (Blk ((w.alloc (.cells (cc lf wa wn wc pa pn pc).toArray 30)).alloc (.cells cz.toArray 73)) A (.cells (cc lf wa wn wc pa pn pc).toArray 30) ∧ Blk ((w.alloc (.cells (cc lf wa wn wc pa pn pc).toArray 30)).alloc (.cells cz.toArray 73)) (A + 1) (.cells cz.toArray 73) ∧ HoldsS ((w.alloc (.cells (cc lf wa wn wc pa pn pc).toArray 30)).alloc (.cells cz.toArray 73)) (.slice wa wn wc) wn wl ∧ HoldsS ((w.alloc (.cells (cc lf wa wn wc pa pn pc).toArray 30)).alloc (.cells cz.toArray 73)) (.slice pa pn pc) pn pl ∧ Below A w ((w.alloc (.cells (cc lf wa wn wc pa pn pc).toArray 30)).alloc (.cells cz.toArray 73))) :=
    ⟨(Blk.newAt _ hA).old _, Blk.newAt _ (by simp [hA]), (hw.keep (more (Below.refl _ _) _)).keep (more (Below.refl _ _) _), (hp.keep (more (Below.refl _ _) _)).keep (more (Below.refl _ _) _), by rw [hA]; exact more (more (Below.refl _ _) _) _⟩
  clear hl hw hp hn
  go_enter Try.func22, Try.ntmps22
  go_wp2_with (refine wpList_box_eq rfl 30 (.tmp 0) rfl _ rfl _ _ (hC _) ?_)
  rw [← hA]
  clear hA hC
  refine wp_world (fun W => Blk W A (.cells (cc lf wa wn wc pa pn pc).toArray 30) ∧ Blk W (A + 1) (.cells cz.toArray 73) ∧ HoldsS W (.slice wa wn wc) wn wl ∧ HoldsS W (.slice pa pn pc) pn pl ∧ Below A w W) H0.out ?_
  intro W hW
  have ST := Kp.mk hW
  clear hW H0
  refine wp_region_pred (fun w' => Blk w' A (.cells (cc lf wa wn wc pa pn pc).toArray 30) ∧ Blk w' (A + 1) (.cells cz.toArray 73) ∧ HoldsS w' (.slice wa wn wc) wn wl ∧ HoldsS w' (.slice pa pn pc) pn pl ∧ Below A w w') [0, 1, 2, 3, 4, 5, 6, 7, 8] [9]
    (fun ι w' v => match ι with
      | 0 => v = .pointer (some ⟨A, 0, none⟩)
      | 1 => v = sumV lf
      | 2 => v = .pointer (some ⟨A, 16, none⟩)
      | 3 => v = .slice wa wn wc
      | 5 => v = .pointer (some ⟨A, 17, none⟩)
      | 6 => v = .slice pa pn pc
      | 4 => ∃ a c, v = .slice a wn c ∧ w'.ownsRow (A + 2) 70 16 (.slice a wn c) wn (bv wl)
      | 7 => ∃ a c, v = .slice a pn c ∧ w'.ownsRow (A + 2) 70 16 (.slice a pn c) pn (bv pl)
      | 8 => ∃ a c b d, v = .agg (cc lf a wn c b pn d).toArray ∧ w'.ownsRow (A + 2) 70 16 (.slice a wn c) wn (bv wl) ∧ w'.ownsRow (A + 2) 70 16 (.slice b pn d) pn (bv pl)
      | _ => v = .bool true)
    [[], [(0, some 3)], [], [(2, some 5)], [(3, some 6)], [], [(5, some 8)], [(4, some 7), (6, some 9)], [(1, some 4), (4, some 7), (7, some 10)]]
    [(0, some 3), (1, some 4), (2, some 5), (3, some 6), (4, some 7), (5, some 8), (6, some 9), (7, some 10), (8, some 11)]
    (by kernel_rfl) (by kernel_rfl) (by kernel_rfl) (by kernel_rfl) (by kernel_rfl) (by kernel_rfl) (by decide) (by decide) (fun w1 w2 h hb => ⟨h.1.keep hb, h.2.1.keep hb, h.2.2.1.keep hb, h.2.2.2.1.keep hb, h.2.2.2.2.trans (hb.mono (Nat.le_of_lt h.1.lt))⟩) ?_ ⟨ST.out.1.keep (Below.refl _ _).drew, ST.out.2.1.keep (Below.refl _ _).drew, ST.out.2.2.1.keep (Below.refl _ _).drew, ST.out.2.2.2.1.keep (Below.refl _ _).drew, ST.out.2.2.2.2.drew⟩ ?_ ?_
  · intro ι w1 w2 v h hb
    by_cases h4 : ι = 4
    · subst h4
      exact (by obtain ⟨a, c, e, hg⟩ := h; exact ⟨a, c, e, ownsRow_below hg hb⟩)
    by_cases h7 : ι = 7
    · subst h7
      exact (by obtain ⟨a, c, e, hg⟩ := h; exact ⟨a, c, e, ownsRow_below hg hb⟩)
    by_cases h8 : ι = 8
    · subst h8
      exact (by obtain ⟨a, c, b, d, e, hg, hk⟩ := h; exact ⟨a, c, b, d, e, ownsRow_below hg hb, ownsRow_below hk hb⟩)
    match ι, h4, h7, h8, h with
    | 0, _, _, _, h => exact h
    | 1, _, _, _, h => exact h
    | 2, _, _, _, h => exact h
    | 3, _, _, _, h => exact h
    | 4, g, _, _, h => exact absurd rfl g
    | 5, _, _, _, h => exact h
    | 6, _, _, _, h => exact h
    | 7, _, g, _, h => exact absurd rfl g
    | 8, _, _, g, h => exact absurd rfl g
    | _ + 9, _, _, _, h => exact h
  · refine ⟨fun γ wx hS h => ?_, fun γ wx hS h => ?_, fun γ wx hS h => ?_, fun γ wx hS h => ?_, fun γ wx hS h => ?_, fun γ wx hS h => ?_, fun γ wx hS h => ?_, fun γ wx hS h => ?_, fun γ wx hS h => ?_, trivial⟩
    · refine ⟨_, rfl, Or.inl ⟨rfl, predRun_value (v := .pointer (some ⟨A, 0, none⟩)) (by simp only [putE]; first | rfl | (go_simp; done) | (go_simp; with_reducible rfl) | (go_simp; rfl)) rfl⟩⟩
    · have h0 := h
      have e0 : γ 0 = .pointer (some ⟨A, 0, none⟩) := h0
      refine ⟨_, rfl, ?_⟩
      refine predOp_val (v := sumV lf) ?_ ?_ ?_
      · kernel_rfl
      · exact exec_load_mid (x := .tmp 3) (b := A) (off := 0) (cs := bv lf) rfl (by simp only [putE, e0]; rfl) (fun j u hu => by rw [Nat.zero_add, hS.1.cell j, List.getElem?_toArray]; unfold cc; rw [List.getElem?_append_left (by have := (List.getElem?_eq_some_iff.1 hu).1; exact this)]; exact hu) Try.underlying27 rfl (cellsL42 HLF.out)
      · rfl
    · refine ⟨_, rfl, Or.inl ⟨rfl, predRun_value (v := .pointer (some ⟨A, 16, none⟩)) (by simp only [putE]; first | rfl | (go_simp; done) | (go_simp; with_reducible rfl) | (go_simp; rfl)) rfl⟩⟩
    · have h2 := h
      have e2 : γ 2 = .pointer (some ⟨A, 16, none⟩) := h2
      refine ⟨_, rfl, ?_⟩
      refine predOp_val (v := .slice wa wn wc) ?_ ?_ ?_
      · kernel_rfl
      · have c16 : wx.cell? ⟨A, 16, none⟩ = some (.slice wa wn wc) := (hS.1.cell 16).trans (by rw [List.getElem?_toArray]; exact cc_16 HLF.out _ _ _ _ _ _)
        simp only [putE, e2]
        go_simp
      · rfl
    · have h3 := h
      have e3 : γ 3 = .slice wa wn wc := h3
      refine ⟨_, rfl, Or.inl ⟨rfl, predRun_call (f := 45) (args := #[.slice wa wn wc]) (by simp only [putE, e3]; go_simp) ?_⟩⟩
      exact (sto_any (.slice wa wn wc) wn wl wx hS.2.2.1 HN.out.1).mono fun r w9 ⟨v9, h1, h2, h3⟩ => by
        obtain ⟨a9, c9, rfl⟩ := row_shapeU h2
        exact ⟨_, h1, ⟨a9, c9, rfl, ownsRow_base h2 (by have := hS.2.1.lt; omega)⟩, h3⟩
    · refine ⟨_, rfl, Or.inl ⟨rfl, predRun_value (v := .pointer (some ⟨A, 17, none⟩)) (by simp only [putE]; first | rfl | (go_simp; done) | (go_simp; with_reducible rfl) | (go_simp; rfl)) rfl⟩⟩
    · have h5 := h
      have e5 : γ 5 = .pointer (some ⟨A, 17, none⟩) := h5
      refine ⟨_, rfl, ?_⟩
      refine predOp_val (v := .slice pa pn pc) ?_ ?_ ?_
      · kernel_rfl
      · have c17 : wx.cell? ⟨A, 17, none⟩ = some (.slice pa pn pc) := (hS.1.cell 17).trans (by rw [List.getElem?_toArray]; exact cc_17 HLF.out _ _ _ _ _ _)
        simp only [putE, e5]
        go_simp
      · rfl
    · obtain ⟨h4, h6⟩ := h
      have p4 : ∃ a c, (γ 4) = .slice a wn c ∧ wx.ownsRow (A + 2) 70 16 (.slice a wn c) wn (bv wl) := h4
      have e6 : γ 6 = .slice pa pn pc := h6
      refine ⟨_, rfl, Or.inl ⟨rfl, predRun_call (f := 45) (args := #[.slice pa pn pc]) (by simp only [putE, e6]; go_simp) ?_⟩⟩
      exact (sto_any (.slice pa pn pc) pn pl wx hS.2.2.2.1 HN.out.2).mono fun r w9 ⟨v9, h1, h2, h3⟩ => by
        obtain ⟨a9, c9, rfl⟩ := row_shapeU h2
        exact ⟨_, h1, ⟨a9, c9, rfl, ownsRow_base h2 (by have := hS.2.1.lt; omega)⟩, h3⟩
    · obtain ⟨h1, h4, h7⟩ := h
      have e1 : γ 1 = sumV lf := h1
      have p4 : ∃ a c, (γ 4) = .slice a wn c ∧ wx.ownsRow (A + 2) 70 16 (.slice a wn c) wn (bv wl) := h4
      have p7 : ∃ a c, (γ 7) = .slice a pn c ∧ wx.ownsRow (A + 2) 70 16 (.slice a pn c) pn (bv pl) := h7
      obtain ⟨a4, c4, e4, h4⟩ := p4
      obtain ⟨a7, c7, e7, h7⟩ := p7
      refine ⟨_, rfl, ?_⟩
      refine predOp_val (v := .agg (cc lf a4 wn c4 a7 pn c7).toArray) ?_ ?_ ?_
      · kernel_rfl
      · exact exec_build3 (x := .tmp 4) (y := .tmp 7) (z := .tmp 10) rfl (by simp only [putE, e1, e4, e7]; rfl) (by simp only [putE, e1, e4, e7]; rfl) (by simp only [putE, e1, e4, e7]; rfl) (build113 HLF.out a4 wn c4 a7 pn c7 wx)
      · exact ⟨a4, c4, a7, c7, rfl, h4, h7⟩
  · intro γ w9 hS h
    obtain ⟨a8, c8, b8, d8, e8, h4, h7⟩ := h.2.2.2.2.2.2.2.2
    simp only [putE, Act.put, List.setIfInBounds_toArray, List.set_cons_zero, List.set_cons_succ]
    rw [e8]
    have S9 := Kp.mk hS
    have H9 := Kp.mk (And.intro h4 h7)
    clear h hS e8 h4 h7
    generalize γ 0 = y0
    generalize γ 1 = y1
    generalize γ 2 = y2
    generalize γ 3 = y3
    generalize γ 4 = y4
    generalize γ 5 = y5
    generalize γ 6 = y6
    generalize γ 7 = y7
    refine wpOps_step rfl rfl ?_
    refine wp_store_rowD rfl 73 (.tmp 2) (.tmp 11) rfl (A + 1) (cc lf a8 wn c8 b8 pn d8).toArray rfl rfl 73 _ S9.out.2.1 (info113s HLF.out _ _ _ _ _ _) (by rw [List.size_toArray, List.size_toArray, cc_len rfl, cc_len HLF.out]) (cc_one _ _ _ _ _ _ _) ?_
    refine wpOps_done ?_
    have hT := Turn.ofRow S9.out.2.1 (cc lf a8 wn c8 b8 pn d8).toArray
    refine ex_worldU (fun W => Blk W (A + 1) (.cells (cc lf a8 wn c8 b8 pn d8).toArray 73) ∧ W.ownsRow (A + 2) 70 16 (.slice a8 wn c8) wn (bv wl) ∧ W.ownsRow (A + 2) 70 16 (.slice b8 pn d8) pn (bv pl) ∧ Below A w W) ⟨hT.blk, ownsRow_turn H9.out.1 hT (by omega), ownsRow_turn H9.out.2 hT (by omega), S9.out.2.2.2.2.trans (hT.below (by omega) (Nat.le_of_lt S9.out.1.lt))⟩ ?_
    rintro W9 hW
    have G9 := Kp.mk hW
    clear hW hT S9 H9
    go_wp2_with fail
    exact bodyPost_ret (results_row rfl _ _ (A + 1) 73 (cc lf a8 wn c8 b8 pn d8).toArray (0, 0) _ rfl G9.out.1 Try.underlying73 rfl (info113s HLF.out _ _ _ _ _ _)) rfl ⟨a8, c8, b8, d8, rfl, ownsRow_base G9.out.2.1 (by have := HAe.out; omega), ownsRow_base G9.out.2.2.1 (by have := HAe.out; omega), by rw [← HAe.out]; exact G9.out.2.2.2⟩
set_option maxRecDepth 100000 in
set_option maxHeartbeats 8000000 in
theorem fromcred_any (lf : List Int) (wa : Option Addr) (wn wc : Nat) (pa : Option Addr) (pn pc : Nat) (wl pl : List Int) (w : World) (hl : lf.length = 16) (hw : HoldsS w (.slice wa wn wc) wn wl) (hp : HoldsS w (.slice pa pn pc) pn pl) (hn : wn ≤ 1000000 ∧ pn ≤ 1000000) :
    Calls Try.prog 37 #[.agg (cc lf wa wn wc pa pn pc).toArray] w (CredPost 27 lf wn wl pn pl w) := by
  have hC := fun (w : World) => box_row (t := 73) (cs := cc lf wa wn wc pa pn pc) (info113s hl _ _ _ _ _ _) w
  obtain ⟨A, hA⟩ : ∃ A, A = w.heap.size := ⟨_, rfl⟩
  have HAe := Kp.mk hA
  have HLF := Kp.mk hl
  have HN := Kp.mk hn
  have H0 : Kp (Blk ((w.alloc (.cells (cc lf wa wn wc pa pn pc).toArray 73)).alloc (.cells cz.toArray 30)) A (.cells (cc lf wa wn wc pa pn pc).toArray 73) ∧ Blk ((w.alloc (.cells (cc lf wa wn wc pa pn pc).toArray 73)).alloc (.cells cz.toArray 30)) (A + 1) (.cells cz.toArray 30) ∧ HoldsS ((w.alloc (.cells (cc lf wa wn wc pa pn pc).toArray 73)).alloc (.cells cz.toArray 30)) (.slice wa wn wc) wn wl ∧ HoldsS ((w.alloc (.cells (cc lf wa wn wc pa pn pc).toArray 73)).alloc (.cells cz.toArray 30)) (.slice pa pn pc) pn pl ∧ Below A w ((w.alloc (.cells (cc lf wa wn wc pa pn pc).toArray 73)).alloc (.cells cz.toArray 30))) :=
    ⟨(Blk.newAt _ hA).old _, Blk.newAt _ (by simp [hA]), (hw.keep (more (Below.refl _ _) _)).keep (more (Below.refl _ _) _), (hp.keep (more (Below.refl _ _) _)).keep (more (Below.refl _ _) _), by rw [hA]; exact more (more (Below.refl _ _) _) _⟩
  clear hl hw hp hn
  go_enter Try.func37, Try.ntmps37
  go_wp2_with (refine wpList_box_eq rfl 73 (.tmp 0) rfl _ rfl _ _ (hC _) ?_)
  rw [← hA]
  clear hA hC
  refine wp_world (fun W => Blk W A (.cells (cc lf wa wn wc pa pn pc).toArray 73) ∧ Blk W (A + 1) (.cells cz.toArray 30) ∧ HoldsS W (.slice wa wn wc) wn wl ∧ HoldsS W (.slice pa pn pc) pn pl ∧ Below A w W) H0.out ?_
  intro W hW
  have ST := Kp.mk hW
  clear hW H0
  refine wp_region_pred (fun w' => Blk w' A (.cells (cc lf wa wn wc pa pn pc).toArray 73) ∧ Blk w' (A + 1) (.cells cz.toArray 30) ∧ HoldsS w' (.slice wa wn wc) wn wl ∧ HoldsS w' (.slice pa pn pc) pn pl ∧ Below A w w') [0, 1, 2, 3, 4, 5, 6, 7, 8] [9]
    (fun ι w' v => match ι with
      | 0 => v = .pointer (some ⟨A, 0, none⟩)
      | 1 => v = sumV lf
      | 2 => v = .pointer (some ⟨A, 16, none⟩)
      | 3 => v = .slice wa wn wc
      | 5 => v = .pointer (some ⟨A, 17, none⟩)
      | 6 => v = .slice pa pn pc
      | 4 => ∃ a c, v = .slice a wn c ∧ w'.ownsRow (A + 2) 27 16 (.slice a wn c) wn (bv wl)
      | 7 => ∃ a c, v = .slice a pn c ∧ w'.ownsRow (A + 2) 27 16 (.slice a pn c) pn (bv pl)
      | 8 => ∃ a c b d, v = .agg (cc lf a wn c b pn d).toArray ∧ w'.ownsRow (A + 2) 27 16 (.slice a wn c) wn (bv wl) ∧ w'.ownsRow (A + 2) 27 16 (.slice b pn d) pn (bv pl)
      | _ => v = .bool true)
    [[], [(0, some 3)], [], [(2, some 5)], [(3, some 6)], [], [(5, some 8)], [(4, some 7), (6, some 9)], [(1, some 4), (4, some 7), (7, some 10)]]
    [(0, some 3), (1, some 4), (2, some 5), (3, some 6), (4, some 7), (5, some 8), (6, some 9), (7, some 10), (8, some 11)]
    (by kernel_rfl) (by kernel_rfl) (by kernel_rfl) (by kernel_rfl) (by kernel_rfl) (by kernel_rfl) (by decide) (by decide) (fun w1 w2 h hb => ⟨h.1.keep hb, h.2.1.keep hb, h.2.2.1.keep hb, h.2.2.2.1.keep hb, h.2.2.2.2.trans (hb.mono (Nat.le_of_lt h.1.lt))⟩) ?_ ⟨ST.out.1.keep (Below.refl _ _).drew, ST.out.2.1.keep (Below.refl _ _).drew, ST.out.2.2.1.keep (Below.refl _ _).drew, ST.out.2.2.2.1.keep (Below.refl _ _).drew, ST.out.2.2.2.2.drew⟩ ?_ ?_
  · intro ι w1 w2 v h hb
    by_cases h4 : ι = 4
    · subst h4
      exact (by obtain ⟨a, c, e, hg⟩ := h; exact ⟨a, c, e, ownsRow_below hg hb⟩)
    by_cases h7 : ι = 7
    · subst h7
      exact (by obtain ⟨a, c, e, hg⟩ := h; exact ⟨a, c, e, ownsRow_below hg hb⟩)
    by_cases h8 : ι = 8
    · subst h8
      exact (by obtain ⟨a, c, b, d, e, hg, hk⟩ := h; exact ⟨a, c, b, d, e, ownsRow_below hg hb, ownsRow_below hk hb⟩)
    match ι, h4, h7, h8, h with
    | 0, _, _, _, h => exact h
    | 1, _, _, _, h => exact h
    | 2, _, _, _, h => exact h
    | 3, _, _, _, h => exact h
    | 4, g, _, _, h => exact absurd rfl g
    | 5, _, _, _, h => exact h
    | 6, _, _, _, h => exact h
    | 7, _, g, _, h => exact absurd rfl g
    | 8, _, _, g, h => exact absurd rfl g
    | _ + 9, _, _, _, h => exact h
  · refine ⟨fun γ wx hS h => ?_, fun γ wx hS h => ?_, fun γ wx hS h => ?_, fun γ wx hS h => ?_, fun γ wx hS h => ?_, fun γ wx hS h => ?_, fun γ wx hS h => ?_, fun γ wx hS h => ?_, fun γ wx hS h => ?_, trivial⟩
    · refine ⟨_, rfl, Or.inl ⟨rfl, predRun_value (v := .pointer (some ⟨A, 0, none⟩)) (by simp only [putE]; first | rfl | (go_simp; done) | (go_simp; with_reducible rfl) | (go_simp; rfl)) rfl⟩⟩
    · have h0 := h
      have e0 : γ 0 = .pointer (some ⟨A, 0, none⟩) := h0
      refine ⟨_, rfl, ?_⟩
      refine predOp_val (v := sumV lf) ?_ ?_ ?_
      · kernel_rfl
      · exact exec_load_mid (x := .tmp 3) (b := A) (off := 0) (cs := bv lf) rfl (by simp only [putE, e0]; rfl) (fun j u hu => by rw [Nat.zero_add, hS.1.cell j, List.getElem?_toArray]; unfold cc; rw [List.getElem?_append_left (by have := (List.getElem?_eq_some_iff.1 hu).1; exact this)]; exact hu) Try.underlying70 rfl (cellsL51 HLF.out)
      · rfl
    · refine ⟨_, rfl, Or.inl ⟨rfl, predRun_value (v := .pointer (some ⟨A, 16, none⟩)) (by simp only [putE]; first | rfl | (go_simp; done) | (go_simp; with_reducible rfl) | (go_simp; rfl)) rfl⟩⟩
    · have h2 := h
      have e2 : γ 2 = .pointer (some ⟨A, 16, none⟩) := h2
      refine ⟨_, rfl, ?_⟩
      refine predOp_val (v := .slice wa wn wc) ?_ ?_ ?_
      · kernel_rfl
      · have c16 : wx.cell? ⟨A, 16, none⟩ = some (.slice wa wn wc) := (hS.1.cell 16).trans (by rw [List.getElem?_toArray]; exact cc_16 HLF.out _ _ _ _ _ _)
        simp only [putE, e2]
        go_simp
      · rfl
    · have h3 := h
      have e3 : γ 3 = .slice wa wn wc := h3
      refine ⟨_, rfl, Or.inl ⟨rfl, predRun_call (f := 62) (args := #[.slice wa wn wc]) (by simp only [putE, e3]; go_simp) ?_⟩⟩
      exact (sfrom_any (.slice wa wn wc) wn wl wx hS.2.2.1 HN.out.1).mono fun r w9 ⟨v9, h1, h2, h3⟩ => by
        obtain ⟨a9, c9, rfl⟩ := row_shapeU h2
        exact ⟨_, h1, ⟨a9, c9, rfl, ownsRow_base h2 (by have := hS.2.1.lt; omega)⟩, h3⟩
    · refine ⟨_, rfl, Or.inl ⟨rfl, predRun_value (v := .pointer (some ⟨A, 17, none⟩)) (by simp only [putE]; first | rfl | (go_simp; done) | (go_simp; with_reducible rfl) | (go_simp; rfl)) rfl⟩⟩
    · have h5 := h
      have e5 : γ 5 = .pointer (some ⟨A, 17, none⟩) := h5
      refine ⟨_, rfl, ?_⟩
      refine predOp_val (v := .slice pa pn pc) ?_ ?_ ?_
      · kernel_rfl
      · have c17 : wx.cell? ⟨A, 17, none⟩ = some (.slice pa pn pc) := (hS.1.cell 17).trans (by rw [List.getElem?_toArray]; exact cc_17 HLF.out _ _ _ _ _ _)
        simp only [putE, e5]
        go_simp
      · rfl
    · obtain ⟨h4, h6⟩ := h
      have p4 : ∃ a c, (γ 4) = .slice a wn c ∧ wx.ownsRow (A + 2) 27 16 (.slice a wn c) wn (bv wl) := h4
      have e6 : γ 6 = .slice pa pn pc := h6
      refine ⟨_, rfl, Or.inl ⟨rfl, predRun_call (f := 62) (args := #[.slice pa pn pc]) (by simp only [putE, e6]; go_simp) ?_⟩⟩
      exact (sfrom_any (.slice pa pn pc) pn pl wx hS.2.2.2.1 HN.out.2).mono fun r w9 ⟨v9, h1, h2, h3⟩ => by
        obtain ⟨a9, c9, rfl⟩ := row_shapeU h2
        exact ⟨_, h1, ⟨a9, c9, rfl, ownsRow_base h2 (by have := hS.2.1.lt; omega)⟩, h3⟩
    · obtain ⟨h1, h4, h7⟩ := h
      have e1 : γ 1 = sumV lf := h1
      have p4 : ∃ a c, (γ 4) = .slice a wn c ∧ wx.ownsRow (A + 2) 27 16 (.slice a wn c) wn (bv wl) := h4
      have p7 : ∃ a c, (γ 7) = .slice a pn c ∧ wx.ownsRow (A + 2) 27 16 (.slice a pn c) pn (bv pl) := h7
      obtain ⟨a4, c4, e4, h4⟩ := p4
      obtain ⟨a7, c7, e7, h7⟩ := p7
      refine ⟨_, rfl, ?_⟩
      refine predOp_val (v := .agg (cc lf a4 wn c4 a7 pn c7).toArray) ?_ ?_ ?_
      · kernel_rfl
      · exact exec_build3 (x := .tmp 4) (y := .tmp 7) (z := .tmp 10) rfl (by simp only [putE, e1, e4, e7]; rfl) (by simp only [putE, e1, e4, e7]; rfl) (by simp only [putE, e1, e4, e7]; rfl) (build103 HLF.out a4 wn c4 a7 pn c7 wx)
      · exact ⟨a4, c4, a7, c7, rfl, h4, h7⟩
  · intro γ w9 hS h
    obtain ⟨a8, c8, b8, d8, e8, h4, h7⟩ := h.2.2.2.2.2.2.2.2
    simp only [putE, Act.put, List.setIfInBounds_toArray, List.set_cons_zero, List.set_cons_succ]
    rw [e8]
    have S9 := Kp.mk hS
    have H9 := Kp.mk (And.intro h4 h7)
    clear h hS e8 h4 h7
    generalize γ 0 = y0
    generalize γ 1 = y1
    generalize γ 2 = y2
    generalize γ 3 = y3
    generalize γ 4 = y4
    generalize γ 5 = y5
    generalize γ 6 = y6
    generalize γ 7 = y7
    refine wpOps_step rfl rfl ?_
    refine wp_store_rowD rfl 30 (.tmp 2) (.tmp 11) rfl (A + 1) (cc lf a8 wn c8 b8 pn d8).toArray rfl rfl 30 _ S9.out.2.1 (info103s HLF.out _ _ _ _ _ _) (by rw [List.size_toArray, List.size_toArray, cc_len rfl, cc_len HLF.out]) (cc_one _ _ _ _ _ _ _) ?_
    refine wpOps_done ?_
    have hT := Turn.ofRow S9.out.2.1 (cc lf a8 wn c8 b8 pn d8).toArray
    refine ex_worldU (fun W => Blk W (A + 1) (.cells (cc lf a8 wn c8 b8 pn d8).toArray 30) ∧ W.ownsRow (A + 2) 27 16 (.slice a8 wn c8) wn (bv wl) ∧ W.ownsRow (A + 2) 27 16 (.slice b8 pn d8) pn (bv pl) ∧ Below A w W) ⟨hT.blk, ownsRow_turn H9.out.1 hT (by omega), ownsRow_turn H9.out.2 hT (by omega), S9.out.2.2.2.2.trans (hT.below (by omega) (Nat.le_of_lt S9.out.1.lt))⟩ ?_
    rintro W9 hW
    have G9 := Kp.mk hW
    clear hW hT S9 H9
    go_wp2_with fail
    exact bodyPost_ret (results_row rfl _ _ (A + 1) 30 (cc lf a8 wn c8 b8 pn d8).toArray (0, 0) _ rfl G9.out.1 Try.underlying30 rfl (info103s HLF.out _ _ _ _ _ _)) rfl ⟨a8, c8, b8, d8, rfl, ownsRow_base G9.out.2.1 (by have := HAe.out; omega), ownsRow_base G9.out.2.2.1 (by have := HAe.out; omega), by rw [← HAe.out]; exact G9.out.2.2.2⟩
end Go.Proofs.Ytioeaknhcfkfcaa

namespace Go.Proofs.Ytioeaknhcfkfcaa
open Go.RowKit

def uFull (B : List Int) : Int := numOf (rawP B 0 0 1)
def us1 (B : List Int) : Nat × Int := ((stp B 1 (0, 0)).1, if 1 < uFull B then failE (stp B 1 (0, 0)).2 10 else (stp B 1 (0, 0)).2)
def uN (B : List Int) : Int := numOf (rawP B (us1 B).1 (us1 B).2 1)
def us2 (B : List Int) : Nat × Int := stp B 1 (us1 B)
def us3 (B : List Int) : Nat × Int := ((us2 B).1, if 8 < uN B then failE (us2 B).2 8 else (us2 B).2)
def uK (B : List Int) : Nat := if 8 < uN B then 0 else (uN B).toNat
/-- Whether what stands there may be an entry, and stands behind last. -/
def uFol (B : List Int) (last : Int) (s : Nat × Int) : Bool := decide ((0 ≤ nD B s ∧ nD B s < 8) ∧ last < nD B s) && krB (nE B s) (nS B s) (nM B s)
/-- The place, the error and the last destination behind i entries. -/
def uT (B : List Int) : Nat → (Nat × Int) × Int
  | 0 => (us3 B, -1)
  | i + 1 => (((gs7 B (uT B i).1).1, if uFol B (uT B i).2 (uT B i).1 = true then (gs7 B (uT B i).1).2 else failE (gs7 B (uT B i).1).2 10), nD B (uT B i).1)
def uEnd (B : List Int) : Int := if 0 < rleft B (uT B (uK B)).1.1 (uT B (uK B)).1.2 then 10 else (uT B (uK B)).1.2
theorem rsumsE_bad {B : List Int} {a : Nat} {e most : Int} (h : e ≠ 0) : rsumsE B a e most = e := by
  have h1 : rawE B a e 1 = e := by unfold rawE; rw [if_neg (fun x => h x.1)]
  unfold rsumsE
  rw [h1, if_pos h]
theorem rsums_few {B : List Int} {a : Nat} {e : Int} {most : Nat} (h : rsumsE B a e most = 0) : (rsumsP B a e most).length ≤ most * 16 := by
  have h0 := h
  unfold rsumsE at h
  by_cases h1 : rawE B a e 1 ≠ 0
  · rw [if_pos h1] at h
    exact absurd h h1
  · rw [if_neg h1] at h
    by_cases h2 : overF most (cnt1 B a e) = true
    · rw [if_pos h2] at h
      exact absurd h (by decide)
    · unfold rsumsP
      rw [if_pos h0, List.length_take, List.length_drop]
      have h3 : cnt1 B a e ≤ most := by
        unfold overF at h2
        simp at h2
        split at h2 <;> omega
      have := Nat.mul_le_mul_right 16 h3
      omega
theorem gs7_few {B : List Int} {s : Nat × Int} (h : (gs7 B s).2 = 0) : (nW B s).length ≤ 48 ∧ (nP B s).length ≤ 96 := by
  have h6 : (gs6 B s).2 = 0 := by
    false_or_by_contra
    rename_i hne
    have : (gs7 B s).2 = (gs6 B s).2 := rsumsE_bad hne
    omega
  exact ⟨rsums_few (most := 3) h6, rsums_few (most := 6) h⟩
/-- What follows by the program follows by the bytes, where it matters. -/
theorem fol_same {B : List Int} {s : Nat × Int} {last : Int} {x : EV} (hx : x.d = nD B s ∧ x.e = nE B s ∧ x.s = nS B s ∧ x.m = nM B s) (hw : (nW B s).length = x.wn * 16) (hp : (nP B s).length = x.pn * 16) :
    (if folB last x = true then (gs7 B s).2 else failE (gs7 B s).2 10) = if uFol B last s = true then (gs7 B s).2 else failE (gs7 B s).2 10 := by
  by_cases h0 : (gs7 B s).2 = 0
  · obtain ⟨h1, h2⟩ := gs7_few h0
    have : folB last x = uFol B last s := by
      unfold folB uFol
      rw [hx.1, hx.2.1, hx.2.2.1, hx.2.2.2, decide_eq_true (show x.wn ≤ 3 ∧ x.pn ≤ 6 by omega), Bool.and_true]
    rw [this]
  · have e : failE (gs7 B s).2 10 = (gs7 B s).2 := failE_no (Or.inl h0)
    rw [e]
    simp
/-- A row that is another kind's stays when a row grows. -/
theorem ownsRow_apart {w w' : World} {base base2 t t2 size size2 n m : Nat} {s v : Value} {xs ys : List Value} (h : w.ownsRow base t size s n xs) (hv : w.ownsRow base2 t2 size2 v m ys) (ht : t ≠ t2) (hg : w.grownBy w' v.ownBlock) : w'.ownsRow base t size s n xs := by
  refine h.kept hg ?_
  cases hs : s.ownBlock with
  | none => exact .inl rfl
  | some k =>
    refine .inr fun e => ?_
    rcases h.2 with ⟨rfl, _⟩ | ⟨g, cap, cur, rfl, _, hg1, _⟩
    · simp [Value.ownBlock] at hs
    · rcases hv.2 with ⟨rfl, _⟩ | ⟨g2, cap2, cur2, rfl, _, hg2, _⟩
      · simp [Value.ownBlock] at e
      · simp [Value.ownBlock] at hs e
        subst hs
        rw [← e, hg1] at hg2
        simp at hg2
        exact ht hg2.2
/-- An entry of the call's own: its rows stand from base on. -/
structure EOw (W : World) (t base : Nat) (z : E3) : Prop where
  l : z.1.lf.length = 16
  b : Bytes z.1.lf
  wl : z.2.1.length = z.1.wn * 16
  pl : z.2.2.length = z.1.pn * 16
  wn : z.1.wn ≤ 65535
  pn : z.1.pn ≤ 65535
  wb : Bytes z.2.1
  pb : Bytes z.2.2
  wr : W.ownsRow base t 16 (.slice z.1.wa z.1.wn z.1.wc) z.1.wn (bv z.2.1)
  pr : W.ownsRow base t 16 (.slice z.1.pa z.1.pn z.1.pc) z.1.pn (bv z.2.2)
theorem EOw.keep {W W' : World} {t base : Nat} {z : E3} (h : EOw W t base z) (hb : Below W.heap.size W W') : EOw W' t base z := ⟨h.l, h.b, h.wl, h.pl, h.wn, h.pn, h.wb, h.pb, ownsRow_below h.wr hb, ownsRow_below h.pr hb⟩
theorem EOw.turn {W W' : World} {t base b : Nat} {z : E3} {o : Obj} (h : EOw W t base z) (hT : Turn b o W W') (hb : b < base) : EOw W' t base z := ⟨h.l, h.b, h.wl, h.pl, h.wn, h.pn, h.wb, h.pb, ownsRow_turn h.wr hT hb, ownsRow_turn h.pr hT hb⟩
theorem EOw.apart {W W' : World} {t base base2 t2 size2 m : Nat} {z : E3} {v : Value} {ys : List Value} (h : EOw W t base z) (hv : W.ownsRow base2 t2 size2 v m ys) (ht : t ≠ t2) (hg : W.grownBy W' v.ownBlock) : EOw W' t base z :=
  ⟨h.l, h.b, h.wl, h.pl, h.wn, h.pn, h.wb, h.pb, ownsRow_apart h.wr hv ht hg, ownsRow_apart h.pr hv ht hg⟩
/-- The cells of entries. -/
def ecs (xs : List E3) : List Value := xs.flatMap fun z => ec z.1
theorem ecs_app (xs : List E3) (z : E3) : ecs (xs ++ [z]) = ecs xs ++ ec z.1 := by simp [ecs]
/-- A row of entries of the call's own (its type te, its rows' type t). -/
structure EOs (W : World) (te t base : Nat) (v : Value) (xs : List E3) : Prop where
  v : W.ownsRow base te 22 v xs.length (ecs xs)
  e : ∀ z ∈ xs, EOw W t base z
theorem EOs.keep {W W' : World} {te t base : Nat} {v : Value} {xs : List E3} (h : EOs W te t base v xs) (hb : Below W.heap.size W W') : EOs W' te t base v xs := ⟨ownsRow_below h.v hb, fun z hz => (h.e z hz).keep hb⟩
theorem EOs.turn {W W' : World} {te t base b : Nat} {v : Value} {xs : List E3} {o : Obj} (h : EOs W te t base v xs) (hT : Turn b o W W') (hb : b < base) : EOs W' te t base v xs := ⟨ownsRow_turn h.v hT hb, fun z hz => (h.e z hz).turn hT hb⟩
theorem EOs.app {W W' : World} {te t base : Nat} {v v' : Value} {xs : List E3} {z : E3} (h : EOs W te t base v xs) (hz : EOw W t base z) (ht : t ≠ te) (ho : W'.ownsRow base te 22 v' (xs.length + 1) (ecs xs ++ ec z.1)) (hg : W.grownBy W' v.ownBlock) : EOs W' te t base v' (xs ++ [z]) :=
  ⟨by rw [ecs_app, List.length_append]; exact ho, fun y hy => by
    rcases List.mem_append.1 hy with hy | hy
    · exact (h.e y hy).apart h.v ht hg
    · simp at hy
      subst hy
      exact hz.apart h.v ht hg⟩
end Go.Proofs.Ytioeaknhcfkfcaa
