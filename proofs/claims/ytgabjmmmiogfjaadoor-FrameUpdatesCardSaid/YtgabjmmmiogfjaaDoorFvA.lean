/-
  The law FrameUpdates, walked.
-/
import Derived.Test.YtgabjmmmiogfjaaDoorFuZ
import Derived.Test.YtgabjmmmiogfjaaDoorFuY
import Derived.Test.YtgabjmmmiogfjaaDoorFuW
import Derived.SizedLaws
namespace Go.Proofs.YtgabjmmmiogfjaaDoor
open Go.ChangeShapes Go.WideShapes Go.ChangeAt Go.RowKit Go.Deep

/-- What the law was given. -/
structure LG (w : World) (A : Nat) (u : Bool) (a : Option Addr) (n c : Nat) (f : Nat → E3) (va : Option Addr) (vn vc : Nat) (B : List Int) (W : World) : Prop where
  b : Blk W A (.cells #[.bool u, .slice a n c] 52)
  e : HoldsW W W.heap.size a n f
  p : HoldsB W W.heap.size (.slice va vn vc) B
  k : KonIs W
  below : Below A w W
theorem LG.more {w W W' : World} {A : Nat} {u : Bool} {a : Option Addr} {n c : Nat} {f : Nat → E3} {va : Option Addr} {vn vc : Nat} {B : List Int} (h : LG w A u a n c f va vn vc B W) (hb : Below W.heap.size W W') : LG w A u a n c f va vn vc B W' :=
  ⟨h.b.keep hb, h.e.grow hb, h.p.grow hb, h.k.keep hb, h.below.trans (hb.mono (Nat.le_of_lt h.b.lt))⟩
/-- And the bytes of both sides. -/
structure LW (w : World) (A : Nat) (u : Bool) (a : Option Addr) (n c : Nat) (f : Nat → E3) (va : Option Addr) (vn vc : Nat) (B : List Int) (qa : Option Addr) (qn qc : Nat) (ra : Option Addr) (rn rc : Nat) (X : List Int) (W : World) : Prop where
  b : LG w A u a n c f va vn vc B W
  q : HoldsB W W.heap.size (.slice qa qn qc) X
  r : HoldsB W W.heap.size (.slice ra rn rc) X
theorem LW.more {w W W' : World} {A : Nat} {u : Bool} {a : Option Addr} {n c : Nat} {f : Nat → E3} {va : Option Addr} {vn vc : Nat} {B : List Int} {qa : Option Addr} {qn qc : Nat} {ra : Option Addr} {rn rc : Nat} {X : List Int} (h : LW w A u a n c f va vn vc B qa qn qc ra rn rc X W) (hb : Below W.heap.size W W') : LW w A u a n c f va vn vc B qa qn qc ra rn rc X W' :=
  ⟨h.b.more hb, h.q.grow hb, h.r.grow hb⟩
/-- An update in a cell of its own. -/
structure UB (W : World) (g : Nat) (t : TypeId) (b : Bool) (a : Option Addr) (n c : Nat) (f : Nat → E3) : Prop where
  b : Blk W g (.cells #[.bool b, .slice a n c] t)
  e : HoldsW W W.heap.size a n f
theorem UB.more {W W' : World} {g : Nat} {t : TypeId} {b : Bool} {a : Option Addr} {n c : Nat} {f : Nat → E3} (h : UB W g t b a n c f) (hb : Below W.heap.size W W') : UB W' g t b a n c f := ⟨h.b.keep hb, h.e.grow hb⟩
theorem b_one (x : Bool) (a : Option Addr) (m c : Nat) : (#[Value.bool x, .slice a m c] : Array Value).all (·.oneCell') = true := by simp [Value.oneCell']
abbrev BZ (t : TypeId) : Obj := .cells #[.bool false, .slice none 0 0] t
theorem put_new (w : World) (t : TypeId) (cs : Array Value) : Below w.heap.size w ((w.alloc (BZ t)).setRow w.heap.size cs) ∧ Blk ((w.alloc (BZ t)).setRow w.heap.size cs) w.heap.size (.cells cs t) := by
  have hT := Turn.ofRow (Blk.newAt (w := w) (BZ t) rfl) cs
  have h1 : Below w.heap.size w (w.alloc (BZ t)) := Go.Proofs.YtgabjmmmiogfjaaDoor.more (Below.refl _ _) _
  exact ⟨h1.trans (hT.below (Nat.le_refl _) h1.size), hT.blk⟩
set_option maxRecDepth 100000 in
set_option maxHeartbeats 32000000 in
theorem updates_walk (u : Bool) (a : Option Addr) (n c : Nat) (f : Nat → E3) (va : Option Addr) (vn vc : Nat) (B : List Int) (w : World) (hf : HoldsO w a n f) (h : HoldsB w w.heap.size (.slice va vn vc) B) (hr : B.length ≤ 140737488351232) (hk : KonIs w) :
    Calls Tryd.prog 6 #[.agg #[.bool u, .slice a n c], .slice va vn vc] w fun r w' => r = .returned (.bool true) ∧ Below w.heap.size w w' := by
  obtain ⟨A, hA⟩ : ∃ A, A = w.heap.size := ⟨_, rfl⟩
  have HAe := Kp.mk hA
  have HBB := Kp.mk h.bytes
  have HBL := Kp.mk hr
  have HF := Kp.mk hf
  have M0 : Below w.heap.size w (w.alloc (.cells #[.bool u, .slice a n c] 52)) := Go.Proofs.YtgabjmmmiogfjaaDoor.more (Below.refl _ _) _
  have HL : Kp (HoldsL (w.alloc (.cells #[.bool u, .slice a n c] 52)) a n (fun i => (f i).1)) := ⟨hf.light.keep M0⟩
  have HM : Kp (n ≤ maxLen) := ⟨hf.m⟩
  have G0 : Kp (Blk (w.alloc (.cells #[.bool u, .slice a n c] 52)) A (.cells #[.bool u, .slice a n c] 52) ∧ HoldsB (w.alloc (.cells #[.bool u, .slice a n c] 52)) (w.alloc (.cells #[.bool u, .slice a n c] 52)).heap.size (.slice va vn vc) B ∧ KonIs (w.alloc (.cells #[.bool u, .slice a n c] 52)) ∧ Below w.heap.size w (w.alloc (.cells #[.bool u, .slice a n c] 52))) := ⟨Blk.newAt _ hA, h.grow M0, hk.keep M0, M0⟩
  clear hf h hr hk M0
  go_enter Tryd.func6, Tryd.ntmps6
  go_wp2_with fail
  refine (light_any u a n c (fun i => (f i).1) _ HL.out HM.out).mono ?_
  rintro r w1 ⟨b, rfl, hl, hb⟩
  clear HL HM
  have HLT := Kp.mk hl
  have G1 : Kp (Blk w1 A (.cells #[.bool u, .slice a n c] 52) ∧ HoldsB w1 w1.heap.size (.slice va vn vc) B ∧ KonIs w1 ∧ Below w.heap.size w w1) := ⟨G0.out.1.keep hb, G0.out.2.1.grow hb, G0.out.2.2.1.keep hb, G0.out.2.2.2.trans (hb.mono G0.out.2.2.2.size)⟩
  rw [← hA]
  clear hl hb G0 hA
  cases b with
  | false =>
    go_wp2_with fail
    refine (awake_any _ G1.out.2.2.1).mono ?_
    rintro r w6 ⟨rfl, hb⟩
    have B6 : Kp (Below w.heap.size w w6) := ⟨G1.out.2.2.2.trans (hb.mono G1.out.2.2.2.size)⟩
    clear hb
    go_wp2_with fail
    go_ret
    exact ⟨rfl, B6.out⟩
  | true =>
    have HN : Kp (n ≤ 30) := ⟨(HLT.out rfl).1⟩
    have hw0 : HoldsW w w.heap.size a n f := HF.out.weak (HLT.out rfl).2
    have S1 : Kp (LG w A u a n c f va vn vc B w1) := ⟨⟨G1.out.1, hw0.grow G1.out.2.2.2, G1.out.2.1, G1.out.2.2.1, by rw [HAe.out]; exact G1.out.2.2.2⟩⟩
    clear HLT HF G1 hw0
    have k0 : w1.cell? ⟨A, 0, none⟩ = some (.bool u) := S1.out.b.cell 0
    have k1 : w1.cell? ⟨A, 1, none⟩ = some (.slice a n c) := S1.out.b.cell 1
    go_wp2_with fail
    clear k0 k1
    refine (toUpdate_any u a n c f w1 S1.out.e (by have := HN.out; omega)).mono ?_
    rintro r w2 ⟨a9, c9, xs, rfl, hs, hl, he, hb⟩
    obtain ⟨hh, hsame⟩ := made_holds S1.out.e hs hl he
    have S2 := Kp.mk (S1.out.more hb)
    have HT := Kp.mk hh
    have HTS := Kp.mk hsame
    obtain ⟨f9, hf9⟩ : ∃ g, g = nthE xs := ⟨_, rfl⟩
    rw [← hf9] at HT HTS
    clear hs hl he hb S1 hh hsame hf9
    obtain ⟨X, hX⟩ : ∃ X, X = updX u f9 n := ⟨_, rfl⟩
    have HX := Kp.mk hX
    obtain ⟨E, hE⟩ : ∃ E, E = updE f9 n := ⟨_, rfl⟩
    have HE := Kp.mk hE
    have HXe : Kp (updX u f n = X) := ⟨by rw [HX.out]; exact same_updX u HTS.out⟩
    have HEe : Kp (updE f n = E) := ⟨by rw [HE.out]; exact same_updE HTS.out⟩
    have HXL : Kp (X.length ≤ 140737488351232) := ⟨by rw [HX.out]; exact updX_len HT.out⟩
    clear hX hE
    go_wp2_with fail
    refine (putUpdate_any u a9 n c9 f9 w2 HT.out HN.out).mono ?_
    rintro r w3 ⟨v3, rfl, ho, hby, hb⟩
    have hq := HoldsB.ofRow hby ho
    rw [← HX.out] at hq
    rw [← HE.out]
    obtain ⟨qa, qn, qc, rfl, -⟩ := hq.slice
    have S3 := Kp.mk (And.intro (S2.out.more hb) hq)
    have HT3 := Kp.mk (HT.out.weak.grow hb)
    have HT3e := Kp.mk (HT.out)
    clear ho hby hb hq S2 HT HT3
    have k0 : w3.cell? ⟨A, 0, none⟩ = some (.bool u) := S3.out.1.b.cell 0
    have k1 : w3.cell? ⟨A, 1, none⟩ = some (.slice a n c) := S3.out.1.b.cell 1
    go_wp2_with fail
    clear k0 k1
    refine (rputUpdate_any u a n c f w3 S3.out.1.e HN.out).mono ?_
    rintro r w4 ⟨v4, rfl, hq, hb⟩
    rw [HXe.out] at hq
    rw [HEe.out]
    obtain ⟨ra, rn, rc, rfl, -⟩ := hq.slice
    have S4 : Kp (LW w A u a n c f va vn vc B qa qn qc ra rn rc X w4) := ⟨⟨S3.out.1.more hb, S3.out.2.grow hb, hq⟩⟩
    clear hq hb S3
    go_wp2_with fail
    refine (getUpdate_any _ _ B w4 S4.out.b.p HBL.out).mono ?_
    rintro r w5 ⟨a1, n1, c1, xs1, rfl, hs, hg, hb⟩
    obtain ⟨g1, g2, g3, g4⟩ := ug_holds HBB.out hs hg
    have HU1 := Kp.mk (And.intro g3 g4)
    have HL1 : Kp (xs1.length = n1) := ⟨(ownsRow_len hs.v).symm⟩
    have HN1e := Kp.mk g1
    have HN8 : Kp (n1 ≤ 8) := ⟨by rw [g1]; exact uM_le B⟩
    have S5 := Kp.mk (And.intro (S4.out.more hb) g2.weak)
    obtain ⟨f1, hf1⟩ : ∃ g, g = nthE xs1 := ⟨_, rfl⟩
    have HF1 := Kp.mk hf1
    rw [← hf1] at S5
    obtain ⟨b1, hb1⟩ : ∃ b, b = (decide (uEnd B = 0) && (uFull B == 1)) := ⟨_, rfl⟩
    have HB1 := Kp.mk hb1
    obtain ⟨E1, hE1⟩ : ∃ e, e = uEnd B := ⟨_, rfl⟩
    have HE1 := Kp.mk hE1
    rw [← hb1, ← hE1]
    clear hs hg hb g1 g2 g3 g4 S4 hf1 hb1 hE1
    obtain ⟨N1, hN1⟩ : ∃ N1, N1 = w5.heap.size := ⟨_, rfl⟩
    have HN1 := Kp.mk hN1
    clear hN1
    go_wp2_with (refine wpList_store_row rfl 57 (.tmp 9) (.tmp 33) rfl w5.heap.size #[.bool b1, .slice a1 n1 c1] rfl rfl 57 _ (Blk.newAt _ rfl) info57t rfl (b_one _ _ _ _) ?_; refine wpl_world (w := (w5.alloc (BZ 57)).setRow w5.heap.size #[.bool b1, .slice a1 n1 c1]) (fun W => LW w A u a n c f va vn vc B qa qn qc ra rn rc X W ∧ UB W N1 57 b1 a1 n1 c1 f1) ⟨S5.out.1.more (put_new _ _ _).1, by rw [HN1.out]; exact (put_new _ _ _).2, S5.out.2.grow (put_new _ _ _).1⟩ ?_; rintro W1 h1; have S6 := Kp.mk h1; clear h1; rw [← HN1.out])
    refine (rgetUpdate_any _ _ B W1 S6.out.1.b.p (Nat.le_refl _)).mono ?_
    rintro r w6 ⟨a2, n2, c2, xs2, rfl, hs, hg, hb⟩
    obtain ⟨g1, g2, g3, g4⟩ := ug_holds HBB.out hs hg
    obtain rfl : n1 = n2 := HN1e.out.trans g1.symm
    have HS12 : Kp (∀ i, i < n1 → SameE (f1 i) (nthE xs2 i)) := ⟨by rw [HF1.out]; exact ug_same HL1.out (ownsRow_len hs.v).symm HU1.out.2 g4 HU1.out.1 g3⟩
    have S7 := Kp.mk (And.intro (S6.out.1.more hb) (And.intro (S6.out.2.more hb) g2.weak))
    obtain ⟨f2, hf2⟩ : ∃ g, g = nthE xs2 := ⟨_, rfl⟩
    rw [← hf2] at S7 HS12
    rw [← HB1.out, ← HE1.out]
    clear hs hg hb g1 g2 g3 g4 S6 hf2 S5
    obtain ⟨N2, hN2⟩ : ∃ N2, N2 = w6.heap.size := ⟨_, rfl⟩
    have HN2 := Kp.mk hN2
    clear hN2
    obtain ⟨sx, hsx⟩ : ∃ sx, sx = strOfNums X := ⟨_, rfl⟩
    have HSX := Kp.mk hsx
    clear hsx
    have h_one2 := b_one
    go_wp2_with (refine wpList_store_row rfl 52 (.tmp 11) (.tmp 38) rfl w6.heap.size #[.bool b1, .slice a2 n1 c2] rfl rfl 52 _ (Blk.newAt _ rfl) info52t rfl (b_one _ _ _ _) ?_; refine wpl_world (w := (w6.alloc (BZ 52)).setRow w6.heap.size #[.bool b1, .slice a2 n1 c2]) (fun W => LW w A u a n c f va vn vc B qa qn qc ra rn rc X W ∧ UB W N1 57 b1 a1 n1 c1 f1 ∧ UB W N2 52 b1 a2 n1 c2 f2) ⟨S7.out.1.more (put_new _ _ _).1, S7.out.2.1.more (put_new _ _ _).1, by rw [HN2.out]; exact (put_new _ _ _).2, S7.out.2.2.grow (put_new _ _ _).1⟩ ?_; rintro W2 h1; have S8 := Kp.mk h1; clear h1 S7; rw [← HN2.out])
    have S7 := S8
    clear S8
    refine wp_region_pred (fun w' => LW w A u a n c f va vn vc B qa qn qc ra rn rc X w' ∧ UB w' N1 57 b1 a1 n1 c1 f1 ∧ UB w' N2 52 b1 a2 n1 c2 f2) [0, 1, 2, 3, 4, 5, 6, 7, 8, 9, 10, 11, 12, 13, 14, 15, 16, 17, 18, 19, 20, 21, 22, 23, 24, 25] []
      (fun ι w' v => match ι with
        | 1 | 2 | 5 | 6 | 7 | 12 | 13 | 14 | 17 | 18 | 19 | 24 | 25 => v = .bool false
        | 3 | 4 => v = .int .i64 E
        | 8 => v = .slice qa qn qc
        | 9 | 11 => v = .string sx
        | 10 => v = .slice ra rn rc
        | 15 | 16 => v = .int .i64 E1
        | 20 => v = .agg #[.bool b1, .slice a1 n1 c1]
        | 22 => v = .agg #[.bool b1, .slice a2 n1 c2]
        | 21 => ∃ (a9 : Option Addr) (c9 : Nat) (g9 : Nat → E3), v = .agg #[.bool b1, .slice a9 n1 c9] ∧ HoldsW w' w'.heap.size a9 n1 g9 ∧ ∀ i, i < n1 → SameE (f1 i) (g9 i)
        | _ => v = .bool true)
      [[], [(0, some 40)], [(0, some 40), (1, some 41)], [(2, some 42)], [(2, some 42)], [(2, some 42), (3, some 43), (4, some 44)], [(2, some 42), (5, some 45)], [(2, some 42), (6, some 46)], [(7, some 47)], [(7, some 47), (8, some 48)], [(7, some 47)], [(7, some 47), (10, some 50)], [(7, some 47), (9, some 49), (11, some 51)], [(7, some 47), (12, some 52)], [(7, some 47), (13, some 53)], [(14, some 54)], [(14, some 54)], [(14, some 54), (15, some 55), (16, some 56)], [(14, some 54), (17, some 57)], [(14, some 54), (18, some 58)], [(19, some 59)], [(19, some 59), (20, some 60)], [(19, some 59)], [(19, some 59), (21, some 61), (22, some 62)], [(19, some 59), (23, some 63)], [(19, some 59), (24, some 64)]]
      [(0, some 40), (1, some 41), (2, some 42), (3, some 43), (4, some 44), (5, some 45), (6, some 46), (7, some 47), (8, some 48), (9, some 49), (10, some 50), (11, some 51), (12, some 52), (13, some 53), (14, some 54), (15, some 55), (16, some 56), (17, some 57), (18, some 58), (19, some 59), (20, some 60), (21, some 61), (22, some 62), (23, some 63), (24, some 64), (25, some 65)]
      (by kernel_rfl) (by kernel_rfl) (by kernel_rfl) (by kernel_rfl) (by kernel_rfl) (by kernel_rfl) (by decide) (by decide) (fun w1 w2 h hb => ⟨h.1.more hb, h.2.1.more hb, h.2.2.more hb⟩) ?_ ⟨S7.out.1.more (Below.refl _ _).drew, S7.out.2.1.more (Below.refl _ _).drew, S7.out.2.2.more (Below.refl _ _).drew⟩ ?_ ?_
    · intro ι w1 w2 v h hb
      by_cases h21 : ι = 21
      · subst h21
        exact (by obtain ⟨a, c, g, e, hg, hk⟩ := h; exact ⟨a, c, g, e, hg.grow hb, hk⟩)
      match ι, h21, h with
      | 0, _, h => exact h
      | 1, _, h => exact h
      | 2, _, h => exact h
      | 3, _, h => exact h
      | 4, _, h => exact h
      | 5, _, h => exact h
      | 6, _, h => exact h
      | 7, _, h => exact h
      | 8, _, h => exact h
      | 9, _, h => exact h
      | 10, _, h => exact h
      | 11, _, h => exact h
      | 12, _, h => exact h
      | 13, _, h => exact h
      | 14, _, h => exact h
      | 15, _, h => exact h
      | 16, _, h => exact h
      | 17, _, h => exact h
      | 18, _, h => exact h
      | 19, _, h => exact h
      | 20, _, h => exact h
      | 21, g, h => exact absurd rfl g
      | 22, _, h => exact h
      | 23, _, h => exact h
      | 24, _, h => exact h
      | 25, _, h => exact h
      | _ + 26, _, h => exact h
    · refine ⟨fun γ wx hS h => ?_, fun γ wx hS h => ?_, fun γ wx hS h => ?_, fun γ wx hS h => ?_, fun γ wx hS h => ?_, fun γ wx hS h => ?_, fun γ wx hS h => ?_, fun γ wx hS h => ?_, fun γ wx hS h => ?_, fun γ wx hS h => ?_, fun γ wx hS h => ?_, fun γ wx hS h => ?_, fun γ wx hS h => ?_, fun γ wx hS h => ?_, fun γ wx hS h => ?_, fun γ wx hS h => ?_, fun γ wx hS h => ?_, fun γ wx hS h => ?_, fun γ wx hS h => ?_, fun γ wx hS h => ?_, fun γ wx hS h => ?_, fun γ wx hS h => ?_, fun γ wx hS h => ?_, fun γ wx hS h => ?_, fun γ wx hS h => ?_, fun γ wx hS h => ?_, trivial⟩
      · refine ⟨_, rfl, Or.inl ⟨rfl, predRun_call (f := 12) (args := #[]) (by simp only [putE]; go_simp) ?_⟩⟩
        exact (awake_any wx hS.1.b.k).mono fun r w9 ⟨h1, h2⟩ => ⟨_, h1, rfl, h2⟩
      · have h0 := h
        have e0 : γ 0 = .bool true := h0
        refine ⟨_, rfl, Or.inl ⟨rfl, predRun_value (v := .bool false) (by simp only [putE, e0]; first | rfl | (go_simp; done) | (go_simp; with_reducible rfl) | (go_simp; rfl)) rfl⟩⟩
      · obtain ⟨h0, h1⟩ := h
        have e0 : γ 0 = .bool true := h0
        have e1 : γ 1 = .bool false := h1
        refine ⟨_, rfl, Or.inl ⟨rfl, predRun_value (v := .bool false) (by simp only [putE, e0, e1]; first | rfl | (go_simp; done) | (go_simp; with_reducible rfl) | (go_simp; rfl)) rfl⟩⟩
      · have h2 := h
        have e2 : γ 2 = .bool false := h2
        refine ⟨_, rfl, Or.inl ⟨(by simp only [putE, e2]; first | kernel_rfl | rfl), predRun_value (v := .int .i64 E) (by simp only [putE, e2]; first | rfl | (go_simp; done) | (go_simp; with_reducible rfl) | (go_simp; rfl)) rfl⟩⟩
      · have h2 := h
        have e2 : γ 2 = .bool false := h2
        refine ⟨_, rfl, Or.inl ⟨(by simp only [putE, e2]; first | kernel_rfl | rfl), predRun_value (v := .int .i64 E) (by simp only [putE, e2]; first | rfl | (go_simp; done) | (go_simp; with_reducible rfl) | (go_simp; rfl)) rfl⟩⟩
      · obtain ⟨h2, h3, h4⟩ := h
        have e2 : γ 2 = .bool false := h2
        have e3 : γ 3 = .int .i64 E := h3
        have e4 : γ 4 = .int .i64 E := h4
        refine ⟨_, rfl, Or.inl ⟨(by simp only [putE, e2, e3, e4]; first | kernel_rfl | rfl), predRun_value (v := .bool false) (by simp only [putE, e2, e3, e4]; first | rfl | (go_simp; done) | (go_simp; with_reducible rfl) | (go_simp; rfl)) rfl⟩⟩
      · obtain ⟨h2, h5⟩ := h
        have e2 : γ 2 = .bool false := h2
        have e5 : γ 5 = .bool false := h5
        refine ⟨_, rfl, Or.inl ⟨rfl, predRun_value (v := .bool false) (by simp only [putE, e2, e5]; first | rfl | (go_simp; done) | (go_simp; with_reducible rfl) | (go_simp; rfl)) rfl⟩⟩
      · obtain ⟨h2, h6⟩ := h
        have e2 : γ 2 = .bool false := h2
        have e6 : γ 6 = .bool false := h6
        refine ⟨_, rfl, Or.inl ⟨rfl, predRun_value (v := .bool false) (by simp only [putE, e2, e6]; first | rfl | (go_simp; done) | (go_simp; with_reducible rfl) | (go_simp; rfl)) rfl⟩⟩
      · have h7 := h
        have e7 : γ 7 = .bool false := h7
        refine ⟨_, rfl, Or.inl ⟨(by simp only [putE, e7]; first | kernel_rfl | rfl), predRun_value (v := .slice qa qn qc) (by simp only [putE, e7]; first | rfl | (go_simp; done) | (go_simp; with_reducible rfl) | (go_simp; rfl)) rfl⟩⟩
      · obtain ⟨h7, h8⟩ := h
        have e7 : γ 7 = .bool false := h7
        have e8 : γ 8 = .slice qa qn qc := h8
        refine ⟨_, rfl, Or.inl ⟨(by simp only [putE, e7, e8]; first | kernel_rfl | rfl), ?_⟩⟩
        refine predRun_value (v := .string sx) ?_ rfl
        have q1 : (convert 24 9 (.slice qa qn qc)).run Tryd.prog wx = .ok (.string sx) wx := by rw [HSX.out]; exact hS.1.q.text
        simp only [putE, e7, e8]
        go_simp
      · have h7 := h
        have e7 : γ 7 = .bool false := h7
        refine ⟨_, rfl, Or.inl ⟨(by simp only [putE, e7]; first | kernel_rfl | rfl), predRun_value (v := .slice ra rn rc) (by simp only [putE, e7]; first | rfl | (go_simp; done) | (go_simp; with_reducible rfl) | (go_simp; rfl)) rfl⟩⟩
      · obtain ⟨h7, h10⟩ := h
        have e7 : γ 7 = .bool false := h7
        have e10 : γ 10 = .slice ra rn rc := h10
        refine ⟨_, rfl, Or.inl ⟨(by simp only [putE, e7, e10]; first | kernel_rfl | rfl), ?_⟩⟩
        refine predRun_value (v := .string sx) ?_ rfl
        have q1 : (convert 24 9 (.slice ra rn rc)).run Tryd.prog wx = .ok (.string sx) wx := by rw [HSX.out]; exact hS.1.r.text
        simp only [putE, e7, e10]
        go_simp
      · obtain ⟨h7, h9, h11⟩ := h
        have e7 : γ 7 = .bool false := h7
        have e9 : γ 9 = .string sx := h9
        have e11 : γ 11 = .string sx := h11
        refine ⟨_, rfl, Or.inl ⟨(by simp only [putE, e7, e9, e11]; first | kernel_rfl | rfl), predRun_value (v := .bool false) (by simp only [putE, e7, e9, e11]; first | rfl | (go_simp; done) | (go_simp; with_reducible rfl) | (go_simp; rfl)) rfl⟩⟩
      · obtain ⟨h7, h12⟩ := h
        have e7 : γ 7 = .bool false := h7
        have e12 : γ 12 = .bool false := h12
        refine ⟨_, rfl, Or.inl ⟨rfl, predRun_value (v := .bool false) (by simp only [putE, e7, e12]; first | rfl | (go_simp; done) | (go_simp; with_reducible rfl) | (go_simp; rfl)) rfl⟩⟩
      · obtain ⟨h7, h13⟩ := h
        have e7 : γ 7 = .bool false := h7
        have e13 : γ 13 = .bool false := h13
        refine ⟨_, rfl, Or.inl ⟨rfl, predRun_value (v := .bool false) (by simp only [putE, e7, e13]; first | rfl | (go_simp; done) | (go_simp; with_reducible rfl) | (go_simp; rfl)) rfl⟩⟩
      · have h14 := h
        have e14 : γ 14 = .bool false := h14
        refine ⟨_, rfl, Or.inl ⟨(by simp only [putE, e14]; first | kernel_rfl | rfl), predRun_value (v := .int .i64 E1) (by simp only [putE, e14]; first | rfl | (go_simp; done) | (go_simp; with_reducible rfl) | (go_simp; rfl)) rfl⟩⟩
      · have h14 := h
        have e14 : γ 14 = .bool false := h14
        refine ⟨_, rfl, Or.inl ⟨(by simp only [putE, e14]; first | kernel_rfl | rfl), predRun_value (v := .int .i64 E1) (by simp only [putE, e14]; first | rfl | (go_simp; done) | (go_simp; with_reducible rfl) | (go_simp; rfl)) rfl⟩⟩
      · obtain ⟨h14, h15, h16⟩ := h
        have e14 : γ 14 = .bool false := h14
        have e15 : γ 15 = .int .i64 E1 := h15
        have e16 : γ 16 = .int .i64 E1 := h16
        refine ⟨_, rfl, Or.inl ⟨(by simp only [putE, e14, e15, e16]; first | kernel_rfl | rfl), predRun_value (v := .bool false) (by simp only [putE, e14, e15, e16]; first | rfl | (go_simp; done) | (go_simp; with_reducible rfl) | (go_simp; rfl)) rfl⟩⟩
      · obtain ⟨h14, h17⟩ := h
        have e14 : γ 14 = .bool false := h14
        have e17 : γ 17 = .bool false := h17
        refine ⟨_, rfl, Or.inl ⟨rfl, predRun_value (v := .bool false) (by simp only [putE, e14, e17]; first | rfl | (go_simp; done) | (go_simp; with_reducible rfl) | (go_simp; rfl)) rfl⟩⟩
      · obtain ⟨h14, h18⟩ := h
        have e14 : γ 14 = .bool false := h14
        have e18 : γ 18 = .bool false := h18
        refine ⟨_, rfl, Or.inl ⟨rfl, predRun_value (v := .bool false) (by simp only [putE, e14, e18]; first | rfl | (go_simp; done) | (go_simp; with_reducible rfl) | (go_simp; rfl)) rfl⟩⟩
      · have h19 := h
        have e19 : γ 19 = .bool false := h19
        refine ⟨_, rfl, Or.inl ⟨(by simp only [putE, e19]; first | kernel_rfl | rfl), ?_⟩⟩
        refine predRun_value (v := .agg #[.bool b1, .slice a1 n1 c1]) ?_ rfl
        exact exec_load_row (x := .tmp 9) (g := N1) (t := 57) (cs := #[.bool b1, .slice a1 n1 c1]) (fr := (0, 0)) rfl (by simp only [putE, Act.put, List.setIfInBounds_toArray, List.set_cons_zero, List.set_cons_succ]; rfl) hS.2.1.b Tryd.underlying57 rfl info57t
      · obtain ⟨h19, h20⟩ := h
        have e19 : γ 19 = .bool false := h19
        have e20 : γ 20 = .agg #[.bool b1, .slice a1 n1 c1] := h20
        refine ⟨_, rfl, Or.inl ⟨(by simp only [putE, e19, e20]; first | kernel_rfl | rfl), predRun_call (f := 27) (args := #[.agg #[.bool b1, .slice a1 n1 c1]]) (by simp only [putE, e19, e20]; go_simp) ?_⟩⟩
        exact (fromUpdate_any b1 a1 n1 c1 f1 wx hS.2.1.e (by have := HN8.out; omega)).mono fun r w9 ⟨a9, c9, xs, h1, h2, h3, h4, h5⟩ => by
          obtain ⟨g1, g2⟩ := made_holds hS.2.1.e h2 h3 h4
          exact ⟨_, h1, ⟨a9, c9, nthE xs, rfl, g1.weak, g2⟩, h5⟩
      · have h19 := h
        have e19 : γ 19 = .bool false := h19
        refine ⟨_, rfl, Or.inl ⟨(by simp only [putE, e19]; first | kernel_rfl | rfl), ?_⟩⟩
        refine predRun_value (v := .agg #[.bool b1, .slice a2 n1 c2]) ?_ rfl
        exact exec_load_row (x := .tmp 11) (g := N2) (t := 52) (cs := #[.bool b1, .slice a2 n1 c2]) (fr := (0, 0)) rfl (by simp only [putE, Act.put, List.setIfInBounds_toArray, List.set_cons_zero, List.set_cons_succ]; rfl) hS.2.2.b Tryd.underlying52 rfl info52t
      · obtain ⟨h19, h21, h22⟩ := h
        have e19 : γ 19 = .bool false := h19
        have p21 : ∃ (a9 : Option Addr) (c9 : Nat) (g9 : Nat → E3), (γ 21) = .agg #[.bool b1, .slice a9 n1 c9] ∧ HoldsW wx wx.heap.size a9 n1 g9 ∧ ∀ i, i < n1 → SameE (f1 i) (g9 i) := h21
        have e22 : γ 22 = .agg #[.bool b1, .slice a2 n1 c2] := h22
        obtain ⟨a9, c9, g9, e21, hg, hk⟩ := p21
        refine ⟨_, rfl, Or.inl ⟨(by simp only [putE, e19, e22]; first | kernel_rfl | rfl), predRun_call (f := 26) (args := #[.agg #[.bool b1, .slice a9 n1 c9], .agg #[.bool b1, .slice a2 n1 c2]]) (by simp only [putE, e19, e21, e22]; go_simp) ?_⟩⟩
        exact (sameUpdate_any _ _ b1 n1 a9 c9 a2 c2 g9 f2 wx hg hS.2.2.e (fun i hi => (hk i hi).symm.trans (HS12.out i hi)) (by have := HN8.out; omega)).mono fun r w9 ⟨h1, h2⟩ => ⟨_, h1, rfl, h2⟩
      · obtain ⟨h19, h23⟩ := h
        have e19 : γ 19 = .bool false := h19
        have e23 : γ 23 = .bool true := h23
        refine ⟨_, rfl, Or.inl ⟨(by simp only [putE, e19, e23]; first | kernel_rfl | rfl), predRun_value (v := .bool false) (by simp only [putE, e19, e23]; first | rfl | (go_simp; done) | (go_simp; with_reducible rfl) | (go_simp; rfl)) rfl⟩⟩
      · obtain ⟨h19, h24⟩ := h
        have e19 : γ 19 = .bool false := h19
        have e24 : γ 24 = .bool false := h24
        refine ⟨_, rfl, Or.inl ⟨rfl, predRun_value (v := .bool false) (by simp only [putE, e19, e24]; first | rfl | (go_simp; done) | (go_simp; with_reducible rfl) | (go_simp; rfl)) rfl⟩⟩
    · intro γ w9 hS h
      have e25 : γ 25 = .bool false := h.2.2.2.2.2.2.2.2.2.2.2.2.2.2.2.2.2.2.2.2.2.2.2.2.2
      simp only [putE, Act.put, List.setIfInBounds_toArray, List.set_cons_zero, List.set_cons_succ]
      rw [e25]
      have S9 := Kp.mk hS
      clear h hS e25
      generalize γ 0 = y0
      generalize γ 1 = y1
      generalize γ 2 = y2
      generalize γ 3 = y3
      generalize γ 4 = y4
      generalize γ 5 = y5
      generalize γ 6 = y6
      generalize γ 7 = y7
      generalize γ 8 = y8
      generalize γ 9 = y9
      generalize γ 10 = y10
      generalize γ 11 = y11
      generalize γ 12 = y12
      generalize γ 13 = y13
      generalize γ 14 = y14
      generalize γ 15 = y15
      generalize γ 16 = y16
      generalize γ 17 = y17
      generalize γ 18 = y18
      generalize γ 19 = y19
      generalize γ 20 = y20
      generalize γ 21 = y21
      generalize γ 22 = y22
      generalize γ 23 = y23
      generalize γ 24 = y24
      refine wpOps_done ?_
      clear S7 HN1 HN2 HS12 HU1 HL1 HN1e HF1 HB1 HE1 HN8
      go_wp2_with fail
      refine (getUpdate_any _ _ X w9 S9.out.1.q HXL.out).mono ?_
      rintro r wa ⟨a3, n3, c3, xs3, rfl, hs, hg, hb⟩
      obtain ⟨g1, g2, g3, g4⟩ := ug_holds S9.out.1.q.bytes hs hg
      have SU := Kp.mk (And.intro (S9.out.1.more hb) g2.weak)
      have HL3 : Kp (xs3.length = n3) := ⟨(ownsRow_len hs.v).symm⟩
      have H34 := Kp.mk (And.intro g3 g4)
      have HG1 := Kp.mk g1
      clear hs hg hb g1 g2 g3 g4 S9
      obtain ⟨f3, hf3⟩ : ∃ g, g = nthE xs3 := ⟨_, rfl⟩
      have HF3 := Kp.mk hf3
      rw [← hf3] at SU
      clear hf3
      obtain ⟨N3, hN3⟩ : ∃ N3, N3 = wa.heap.size := ⟨_, rfl⟩
      have HN3 := Kp.mk hN3
      clear hN3
      obtain ⟨b3, hb3⟩ : ∃ b, b = (decide (uEnd X = 0) && (uFull X == 1)) := ⟨_, rfl⟩
      have HB3 := Kp.mk hb3
      obtain ⟨E9, hE9⟩ : ∃ e, e = uEnd X := ⟨_, rfl⟩
      have HE9 := Kp.mk hE9
      rw [← hb3, ← hE9]
      clear hb3 hE9
      by_cases hE0 : E = 0
      · have hu0 : updE f9 n = 0 := by rw [← HE.out]; exact hE0
        obtain ⟨l1, l2, l3, l4⟩ := laid_same (u := u) HT3e.out hu0 (by rw [← HX.out]; exact H34.out.2) H34.out.1
        rw [← HX.out] at l1 l2 l3
        obtain rfl : n = n3 := l3.symm.trans HG1.out.symm
        obtain rfl : u = b3 := l2.symm.trans HB3.out.symm
        obtain rfl : E9 = 0 := HE9.out.trans l1
        have HS3 : Kp (∀ i, i < n → SameE (f3 i) (f i)) := ⟨fun i hi => by rw [HF3.out]; exact (l4 HL3.out i hi).trans (HTS.out i hi).symm⟩
        clear l1 l2 l3 l4 hu0 HE HX HXe HEe HXL HTS HT3e HL3 H34 HG1 HF3 HB3 HE9
        subst hE0
        go_wp2_with (refine wpList_store_row rfl 57 (.tmp 13) (.tmp 69) rfl wa.heap.size #[.bool u, .slice a3 n c3] rfl rfl 57 _ (Blk.newAt _ rfl) info57t rfl (b_one _ _ _ _) ?_; refine wpl_world (w := (wa.alloc (BZ 57)).setRow wa.heap.size #[.bool u, .slice a3 n c3]) (fun W => LW w A u a n c f va vn vc B qa qn qc ra rn rc X W ∧ UB W N3 57 u a3 n c3 f3) ⟨SU.out.1.more (put_new _ _ _).1, by rw [HN3.out]; exact (put_new _ _ _).2, SU.out.2.grow (put_new _ _ _).1⟩ ?_; rintro W3 h1; have SA := Kp.mk h1; clear h1 SU; rw [← HN3.out])
        refine wp_region_pred (fun w' => LW w A u a n c f va vn vc B qa qn qc ra rn rc X w' ∧ UB w' N3 57 u a3 n c3 f3) [0, 1, 2, 3, 4, 5, 6, 7, 8, 9, 10, 11] [12]
          (fun ι w' v => match ι with
            | 0 | 3 => v = .int .i64 0
            | 1 | 2 => v = .bool false
            | 6 => v = .agg #[.bool u, .slice a3 n c3]
            | 8 => v = .agg #[.bool u, .slice a n c]
            | 7 => ∃ (a9 : Option Addr) (c9 : Nat) (g9 : Nat → E3), v = .agg #[.bool u, .slice a9 n c9] ∧ HoldsW w' w'.heap.size a9 n g9 ∧ ∀ i, i < n → SameE (f3 i) (g9 i)
            | _ => v = .bool true)
          [[], [(0, some 71)], [(1, some 72)], [(2, some 73)], [(2, some 73), (3, some 74)], [(2, some 73), (4, some 75)], [(5, some 76)], [(5, some 76), (6, some 77)], [(5, some 76)], [(5, some 76), (7, some 78), (8, some 79)], [(2, some 73), (5, some 76), (9, some 80)], [(2, some 73), (10, some 81)]]
          [(0, some 71), (1, some 72), (2, some 73), (3, some 74), (4, some 75), (5, some 76), (6, some 77), (7, some 78), (8, some 79), (9, some 80), (10, some 81), (11, some 82)]
          (by kernel_rfl) (by kernel_rfl) (by kernel_rfl) (by kernel_rfl) (by kernel_rfl) (by kernel_rfl) (by decide) (by decide) (fun w1 w2 h hb => ⟨h.1.more hb, h.2.more hb⟩) ?_ ⟨SA.out.1.more (Below.refl _ _).drew, SA.out.2.more (Below.refl _ _).drew⟩ ?_ ?_
        · intro ι w1 w2 v h hb
          by_cases h7 : ι = 7
          · subst h7
            exact (by obtain ⟨a, c, g, e, hg, hk⟩ := h; exact ⟨a, c, g, e, hg.grow hb, hk⟩)
          match ι, h7, h with
          | 0, _, h => exact h
          | 1, _, h => exact h
          | 2, _, h => exact h
          | 3, _, h => exact h
          | 4, _, h => exact h
          | 5, _, h => exact h
          | 6, _, h => exact h
          | 7, g, h => exact absurd rfl g
          | 8, _, h => exact h
          | 9, _, h => exact h
          | 10, _, h => exact h
          | 11, _, h => exact h
          | _ + 12, _, h => exact h
        · refine ⟨fun γ wx hS h => ?_, fun γ wx hS h => ?_, fun γ wx hS h => ?_, fun γ wx hS h => ?_, fun γ wx hS h => ?_, fun γ wx hS h => ?_, fun γ wx hS h => ?_, fun γ wx hS h => ?_, fun γ wx hS h => ?_, fun γ wx hS h => ?_, fun γ wx hS h => ?_, fun γ wx hS h => ?_, trivial⟩
          · refine ⟨_, rfl, Or.inl ⟨rfl, predRun_value (v := .int .i64 0) (by simp only [putE]; first | rfl | (go_simp; done) | (go_simp; with_reducible rfl) | (go_simp; rfl)) rfl⟩⟩
          · have h0 := h
            have e0 : γ 0 = .int .i64 0 := h0
            refine ⟨_, rfl, Or.inl ⟨rfl, predRun_value (v := .bool false) (by simp only [putE, e0]; first | rfl | (go_simp; done) | (go_simp; with_reducible rfl) | (go_simp; rfl)) rfl⟩⟩
          · have h1 := h
            have e1 : γ 1 = .bool false := h1
            refine ⟨_, rfl, Or.inl ⟨rfl, predRun_value (v := .bool false) (by simp only [putE, e1]; first | rfl | (go_simp; done) | (go_simp; with_reducible rfl) | (go_simp; rfl)) rfl⟩⟩
          · have h2 := h
            have e2 : γ 2 = .bool false := h2
            refine ⟨_, rfl, Or.inl ⟨(by simp only [putE, e2]; first | kernel_rfl | rfl), predRun_value (v := .int .i64 0) (by simp only [putE, e2]; first | rfl | (go_simp; done) | (go_simp; with_reducible rfl) | (go_simp; rfl)) rfl⟩⟩
          · obtain ⟨h2, h3⟩ := h
            have e2 : γ 2 = .bool false := h2
            have e3 : γ 3 = .int .i64 0 := h3
            refine ⟨_, rfl, Or.inl ⟨(by simp only [putE, e2, e3]; first | kernel_rfl | rfl), predRun_value (v := .bool true) (by simp only [putE, e2, e3]; first | rfl | (go_simp; done) | (go_simp; with_reducible rfl) | (go_simp; rfl)) rfl⟩⟩
          · obtain ⟨h2, h4⟩ := h
            have e2 : γ 2 = .bool false := h2
            have e4 : γ 4 = .bool true := h4
            refine ⟨_, rfl, Or.inl ⟨(by simp only [putE, e2, e4]; first | kernel_rfl | rfl), predRun_value (v := .bool true) (by simp only [putE, e2, e4]; first | rfl | (go_simp; done) | (go_simp; with_reducible rfl) | (go_simp; rfl)) rfl⟩⟩
          · have h5 := h
            have e5 : γ 5 = .bool true := h5
            refine ⟨_, rfl, Or.inl ⟨(by simp only [putE, e5]; first | kernel_rfl | rfl), ?_⟩⟩
            refine predRun_value (v := .agg #[.bool u, .slice a3 n c3]) ?_ rfl
            exact exec_load_row (x := .tmp 13) (g := N3) (t := 57) (cs := #[.bool u, .slice a3 n c3]) (fr := (0, 0)) rfl (by simp only [putE, Act.put, List.setIfInBounds_toArray, List.set_cons_zero, List.set_cons_succ]; rfl) hS.2.b Tryd.underlying57 rfl info57t
          · obtain ⟨h5, h6⟩ := h
            have e5 : γ 5 = .bool true := h5
            have e6 : γ 6 = .agg #[.bool u, .slice a3 n c3] := h6
            refine ⟨_, rfl, Or.inl ⟨(by simp only [putE, e5, e6]; first | kernel_rfl | rfl), predRun_call (f := 27) (args := #[.agg #[.bool u, .slice a3 n c3]]) (by simp only [putE, e5, e6]; go_simp) ?_⟩⟩
            exact (fromUpdate_any u a3 n c3 f3 wx hS.2.e (by have := HN.out; omega)).mono fun r w9 ⟨a9, c9, xs, h1, h2, h3, h4, h5⟩ => by
              obtain ⟨g1, g2⟩ := made_holds hS.2.e h2 h3 h4
              exact ⟨_, h1, ⟨a9, c9, nthE xs, rfl, g1.weak, g2⟩, h5⟩
          · have h5 := h
            have e5 : γ 5 = .bool true := h5
            refine ⟨_, rfl, Or.inl ⟨(by simp only [putE, e5]; first | kernel_rfl | rfl), ?_⟩⟩
            refine predRun_value (v := .agg #[.bool u, .slice a n c]) ?_ rfl
            exact exec_load_row (x := .tmp 2) (g := A) (t := 52) (cs := #[.bool u, .slice a n c]) (fr := (0, 0)) rfl (by simp only [putE, Act.put, List.setIfInBounds_toArray, List.set_cons_zero, List.set_cons_succ]; rfl) hS.1.b.b Tryd.underlying52 rfl info52t
          · obtain ⟨h5, h7, h8⟩ := h
            have e5 : γ 5 = .bool true := h5
            have p7 : ∃ (a9 : Option Addr) (c9 : Nat) (g9 : Nat → E3), (γ 7) = .agg #[.bool u, .slice a9 n c9] ∧ HoldsW wx wx.heap.size a9 n g9 ∧ ∀ i, i < n → SameE (f3 i) (g9 i) := h7
            have e8 : γ 8 = .agg #[.bool u, .slice a n c] := h8
            obtain ⟨a9, c9, g9, e7, hg, hk⟩ := p7
            refine ⟨_, rfl, Or.inl ⟨(by simp only [putE, e5, e8]; first | kernel_rfl | rfl), predRun_call (f := 26) (args := #[.agg #[.bool u, .slice a9 n c9], .agg #[.bool u, .slice a n c]]) (by simp only [putE, e5, e7, e8]; go_simp) ?_⟩⟩
            exact (sameUpdate_any _ _ u n a9 c9 a c g9 f wx hg hS.1.b.e (fun i hi => (hk i hi).symm.trans (HS3.out i hi)) (by have := HN.out; omega)).mono fun r w9 ⟨h1, h2⟩ => ⟨_, h1, rfl, h2⟩
          · obtain ⟨h2, h5, h9⟩ := h
            have e2 : γ 2 = .bool false := h2
            have e5 : γ 5 = .bool true := h5
            have e9 : γ 9 = .bool true := h9
            refine ⟨_, rfl, Or.inl ⟨(by simp only [putE, e2, e5, e9]; first | kernel_rfl | rfl), predRun_value (v := .bool true) (by simp only [putE, e2, e5, e9]; first | rfl | (go_simp; done) | (go_simp; with_reducible rfl) | (go_simp; rfl)) rfl⟩⟩
          · obtain ⟨h2, h10⟩ := h
            have e2 : γ 2 = .bool false := h2
            have e10 : γ 10 = .bool true := h10
            refine ⟨_, rfl, Or.inl ⟨rfl, predRun_value (v := .bool true) (by simp only [putE, e2, e10]; first | rfl | (go_simp; done) | (go_simp; with_reducible rfl) | (go_simp; rfl)) rfl⟩⟩
        · intro γ w9 hS h
          have e11 : γ 11 = .bool true := h.2.2.2.2.2.2.2.2.2.2.2
          simp only [putE, Act.put, List.setIfInBounds_toArray, List.set_cons_zero, List.set_cons_succ]
          rw [e11]
          have S9 := Kp.mk hS
          clear h hS e11
          generalize γ 0 = y0
          generalize γ 1 = y1
          generalize γ 2 = y2
          generalize γ 3 = y3
          generalize γ 4 = y4
          generalize γ 5 = y5
          generalize γ 6 = y6
          generalize γ 7 = y7
          generalize γ 8 = y8
          generalize γ 9 = y9
          generalize γ 10 = y10
          refine wpOps_step rfl rfl ?_
          go_simp
          refine wpOps_done ?_
          go_wp2_with fail
          go_ret
          exact ⟨rfl, by rw [← HAe.out]; exact S9.out.1.b.below⟩
      · have HE0 := Kp.mk hE0
        clear hE0 HE HX HXe HEe HXL HTS HT3e HL3 H34 HG1 HF3 HB3 HE9
        go_wp2_with (refine wpList_store_row rfl 57 (.tmp 13) (.tmp 69) rfl wa.heap.size #[.bool b3, .slice a3 n3 c3] rfl rfl 57 _ (Blk.newAt _ rfl) info57t rfl (b_one _ _ _ _) ?_; refine wpl_world (w := (wa.alloc (BZ 57)).setRow wa.heap.size #[.bool b3, .slice a3 n3 c3]) (fun W => LW w A u a n c f va vn vc B qa qn qc ra rn rc X W ∧ UB W N3 57 b3 a3 n3 c3 f3) ⟨SU.out.1.more (put_new _ _ _).1, by rw [HN3.out]; exact (put_new _ _ _).2, SU.out.2.grow (put_new _ _ _).1⟩ ?_; rintro W3 h1; have SA := Kp.mk h1; clear h1 SU; rw [← HN3.out])
        refine wp_region_pred (fun w' => LW w A u a n c f va vn vc B qa qn qc ra rn rc X w' ∧ UB w' N3 57 b3 a3 n3 c3 f3) [0, 1, 2, 3, 4, 5, 6, 7, 8, 9, 10, 11] [12]
          (fun ι w' v => match ι with
            | 0 => v = .int .i64 E
            | 3 | 4 | 5 | 6 | 7 | 8 | 9 | 10 => v = undef
            | _ => v = .bool true)
          [[], [(0, some 71)], [(1, some 72)], [(2, some 73)], [(2, some 73), (3, some 74)], [(2, some 73), (4, some 75)], [(5, some 76)], [(5, some 76), (6, some 77)], [(5, some 76)], [(5, some 76), (7, some 78), (8, some 79)], [(2, some 73), (5, some 76), (9, some 80)], [(2, some 73), (10, some 81)]]
          [(0, some 71), (1, some 72), (2, some 73), (3, some 74), (4, some 75), (5, some 76), (6, some 77), (7, some 78), (8, some 79), (9, some 80), (10, some 81), (11, some 82)]
          (by kernel_rfl) (by kernel_rfl) (by kernel_rfl) (by kernel_rfl) (by kernel_rfl) (by kernel_rfl) (by decide) (by decide) (fun w1 w2 h hb => ⟨h.1.more hb, h.2.more hb⟩) ?_ ⟨SA.out.1.more (Below.refl _ _).drew, SA.out.2.more (Below.refl _ _).drew⟩ ?_ ?_
        · intro ι w1 w2 v h hb
          match ι, h with
          | 0, h => exact h
          | 1, h => exact h
          | 2, h => exact h
          | 3, h => exact h
          | 4, h => exact h
          | 5, h => exact h
          | 6, h => exact h
          | 7, h => exact h
          | 8, h => exact h
          | 9, h => exact h
          | 10, h => exact h
          | 11, h => exact h
          | _ + 12, h => exact h
        · refine ⟨fun γ wx hS h => ?_, fun γ wx hS h => ?_, fun γ wx hS h => ?_, fun γ wx hS h => ?_, fun γ wx hS h => ?_, fun γ wx hS h => ?_, fun γ wx hS h => ?_, fun γ wx hS h => ?_, fun γ wx hS h => ?_, fun γ wx hS h => ?_, fun γ wx hS h => ?_, fun γ wx hS h => ?_, trivial⟩
          · refine ⟨_, rfl, Or.inl ⟨rfl, predRun_value (v := .int .i64 E) (by simp only [putE]; first | rfl | (go_simp; done) | (go_simp; with_reducible rfl) | (go_simp; rfl)) rfl⟩⟩
          · have h0 := h
            have e0 : γ 0 = .int .i64 E := h0
            refine ⟨_, rfl, Or.inl ⟨rfl, predRun_value (v := .bool true) (by simp only [putE, e0]; go_simp; exact HE0.out) rfl⟩⟩
          · have h1 := h
            have e1 : γ 1 = .bool true := h1
            refine ⟨_, rfl, Or.inl ⟨rfl, predRun_value (v := .bool true) (by simp only [putE, e1]; first | rfl | (go_simp; done) | (go_simp; with_reducible rfl) | (go_simp; rfl)) rfl⟩⟩
          · have h2 := h
            have e2 : γ 2 = .bool true := h2
            refine ⟨_, rfl, Or.inr ⟨(by simp only [putE, e2]; first | kernel_rfl | rfl), rfl⟩⟩
          · obtain ⟨h2, h3⟩ := h
            have e2 : γ 2 = .bool true := h2
            have e3 : γ 3 = undef := h3
            refine ⟨_, rfl, Or.inr ⟨(by simp only [putE, e2, e3]; first | kernel_rfl | rfl), rfl⟩⟩
          · obtain ⟨h2, h4⟩ := h
            have e2 : γ 2 = .bool true := h2
            have e4 : γ 4 = undef := h4
            refine ⟨_, rfl, Or.inr ⟨(by simp only [putE, e2, e4]; first | kernel_rfl | rfl), rfl⟩⟩
          · have h5 := h
            have e5 : γ 5 = undef := h5
            refine ⟨_, rfl, Or.inr ⟨(by simp only [putE, e5]; first | kernel_rfl | rfl), rfl⟩⟩
          · obtain ⟨h5, h6⟩ := h
            have e5 : γ 5 = undef := h5
            have e6 : γ 6 = undef := h6
            refine ⟨_, rfl, Or.inr ⟨(by simp only [putE, e5, e6]; first | kernel_rfl | rfl), rfl⟩⟩
          · have h5 := h
            have e5 : γ 5 = undef := h5
            refine ⟨_, rfl, Or.inr ⟨(by simp only [putE, e5]; first | kernel_rfl | rfl), rfl⟩⟩
          · obtain ⟨h5, h7, h8⟩ := h
            have e5 : γ 5 = undef := h5
            have e7 : γ 7 = undef := h7
            have e8 : γ 8 = undef := h8
            refine ⟨_, rfl, Or.inr ⟨(by simp only [putE, e5, e7, e8]; first | kernel_rfl | rfl), rfl⟩⟩
          · obtain ⟨h2, h5, h9⟩ := h
            have e2 : γ 2 = .bool true := h2
            have e5 : γ 5 = undef := h5
            have e9 : γ 9 = undef := h9
            refine ⟨_, rfl, Or.inr ⟨(by simp only [putE, e2, e5, e9]; first | kernel_rfl | rfl), rfl⟩⟩
          · obtain ⟨h2, h10⟩ := h
            have e2 : γ 2 = .bool true := h2
            have e10 : γ 10 = undef := h10
            refine ⟨_, rfl, Or.inl ⟨rfl, predRun_value (v := .bool true) (by simp only [putE, e2, e10]; first | rfl | (go_simp; done) | (go_simp; with_reducible rfl) | (go_simp; rfl)) rfl⟩⟩
        · intro γ w9 hS h
          have e11 : γ 11 = .bool true := h.2.2.2.2.2.2.2.2.2.2.2
          simp only [putE, Act.put, List.setIfInBounds_toArray, List.set_cons_zero, List.set_cons_succ]
          rw [e11]
          have S9 := Kp.mk hS
          clear h hS e11
          generalize γ 0 = y0
          generalize γ 1 = y1
          generalize γ 2 = y2
          generalize γ 3 = y3
          generalize γ 4 = y4
          generalize γ 5 = y5
          generalize γ 6 = y6
          generalize γ 7 = y7
          generalize γ 8 = y8
          generalize γ 9 = y9
          generalize γ 10 = y10
          refine wpOps_step rfl rfl ?_
          go_simp
          refine wpOps_done ?_
          go_wp2_with fail
          go_ret
          exact ⟨rfl, by rw [← HAe.out]; exact S9.out.1.b.below⟩
end Go.Proofs.YtgabjmmmiogfjaaDoor
