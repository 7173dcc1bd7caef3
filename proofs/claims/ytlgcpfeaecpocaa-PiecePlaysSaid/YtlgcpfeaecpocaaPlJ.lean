/-
  Piece by piece what a joiner answers, and what it waits for: the walk.
-/
import Derived.Test.YtlgcpfeaecpocaaPlI
namespace Go.Proofs.Ytlgcpfeaecpocaa
open Go.RowKit

theorem bv_getD {ys : List Int} {i : Nat} (h : i < ys.length) : (bv ys)[i]? = some (.int .u8 (ys.getD i 0)) := by
  unfold bv
  rw [List.getElem?_map, List.getD_eq_getElem?_getD, List.getElem?_eq_getElem h]; rfl
theorem row_form {w : World} {base n : Nat} {v : Value} {xs : List Value} (h : w.ownsRow base 5 1 v n xs) (hn : 0 < n) : ∃ g cap cur, v = .slice (some ⟨g, 0, none⟩) n cap ∧ base ≤ g ∧ Blk w g (.cells cur 5) := by
  rcases h.2 with ⟨_, h0⟩ | ⟨g, cap, cur, rfl, hb, hc, _⟩
  · omega
  · exact ⟨g, cap, cur, rfl, hb, hc⟩
/-- Both joiners, beside each other. -/
structure LS (w : World) (G D q : Nat) (J : PjM) (R : RJ) (v : Value) (W : World) : Prop where
  j : JIs W G q J
  m : Blk W D (.cells (rjc R v) 51)
  qr : QRow W w.heap.size v R.ps
  r : JR J R
  b : Below w.heap.size w W
  hq : q = G ∨ 0 < J.ps.length
  hg : w.heap.size ≤ G
  hqb : w.heap.size ≤ q
  hd : w.heap.size ≤ D
theorem LS.keep {w W W' : World} {G D q : Nat} {J : PjM} {R : RJ} {v : Value} (h : LS w G D q J R v W) (hb : Below W.heap.size W W') : LS w G D q J R v W' :=
  ⟨h.j.keep hb, h.m.keep hb, h.qr.keep hb, h.r, h.b.trans (hb.mono h.b.size), h.hq, h.hg, h.hqb, h.hd⟩
theorem JIs.turn51 {w w' : World} {g q D : Nat} {J : PjM} {cs : Array Value} {o : Obj} (h : JIs w g q J) (hb : Blk w D (.cells cs 51)) (hno : ∀ (i : Nat) (z : Int), cs[i]? ≠ some (.int .u8 z)) (ht : Turn D o w w') : JIs w' g q J :=
  ⟨ht.keep h.b (cells_ne h.b hb (by decide)), fun h0 => ht.keep (h.r h0) (cells_ne (h.r h0) hb (by decide)), fun y hy => ⟨((h.t y hy).1.beside hb hno ht.size fun k hk hne => ht.other k hk hne).mono ht.size, (h.t y hy).2⟩, h.n, h.i⟩
theorem rjc_no {w : World} {B : Nat} {R : RJ} {v : Value} (h : QRow w B v R.ps) : ∀ (i : Nat) (z : Int), (rjc R v)[i]? ≠ some (.int .u8 z) := by
  obtain ⟨a, n, c, rfl, -⟩ := h.shape
  intro i z
  match i with
  | 0 => simp
  | 1 => simp
  | 2 => simp
  | 3 => simp
  | 4 => simp
  | i + 5 => simp
theorem LS.put {w W W' : World} {G D q : Nat} {J : PjM} {R R' : RJ} {v v' : Value} (hj : JIs W G q J) (hm : Blk W D (.cells (rjc R v) 51)) (hqo : QRow W w.heap.size v R.ps) (hq' : QRow W w.heap.size v' R'.ps) (hr : JR J R') (hb : Below w.heap.size w W) (h1 : q = G ∨ 0 < J.ps.length) (h2 : w.heap.size ≤ G) (h3 : w.heap.size ≤ q) (h4 : w.heap.size ≤ D) (ht : Turn D (.cells (rjc R' v') 51) W W') : LS w G D q J R' v' W' :=
  ⟨hj.turn51 hm (rjc_no hqo) ht, ht.blk, hq'.turn hm ht h4, hr, hb.trans (ht.below h4 hb.size), h1, h2, h3, h4⟩
set_option maxRecDepth 100000 in
set_option maxHeartbeats 40000000 in
theorem piecePlays_walk (a : Option Addr) (len cap : Nat) (ol : List PcV) (w : World) (hf : IsPcs w a len ol) : Calls Try.prog 5 #[.slice a len cap] w fun r w' => r = .returned (.bool true) ∧ Below w.heap.size w w' := by
  have HF := Kp.mk hf
  have hfm : len ≤ maxLen := hf.max
  unfold maxLen at hfm
  clear hf
  go_enter Try.func5, Try.ntmps5
  go_wp2_with fail
  refine (new_one w).mono ?_
  rintro r w1 ⟨rfl, hbk, hb⟩
  obtain ⟨G, hG⟩ : ∃ G, G = w.heap.size := ⟨_, rfl⟩
  rw [← hG] at hbk ⊢
  have HGE := Kp.mk hG
  have HBK := Kp.mk hbk
  have HB1 := Kp.mk hb
  clear hbk hb hG
  go_wp2_with fail
  obtain ⟨D, hD⟩ : ∃ D, D = w1.heap.size := ⟨_, rfl⟩
  have HL0 : Kp (LS w G D G ⟨false, 0, []⟩ ⟨false, false, 0, 0, []⟩ (.slice none 0 0) (w1.alloc (.cells #[.bool false, .bool false, .int .u32 0, .int .i64 0, .slice none 0 0] 51))) := ⟨(JIs.new HBK.out).keep (more (Below.refl _ _) _), Blk.newAt _ hD, QRow.nil _ _, ⟨rfl, fun e => (by cases e), fun _ => ⟨rfl, rfl, by decide⟩, fun e => (by cases e), fun e => (by cases e), by simp, (fun x hx => by cases hx), by decide⟩, HB1.out.alloc HB1.out.size _, .inl rfl, by rw [HGE.out]; exact Nat.le_refl _, by rw [HGE.out]; exact Nat.le_refl _, by rw [hD]; exact HB1.out.size⟩
  rw [← hD]
  clear hD HBK HB1
  generalize w1.alloc (.cells #[.bool false, .bool false, .int .u32 0, .int .i64 0, .slice none 0 0] 51) = W1 at *
  go_loopw [24] (fun c wr => ∃ (i : Nat) (J : PjM) (R : RJ) (q : Nat) (v : Value), i ≤ len ∧ c = .int .i64 i ∧ Kp (LS w G D q J R v wr)) (fun c _ => len - (intOf c).toNat)
  case atStart => exact ⟨0, _, _, _, _, by omega, rfl, HL0⟩
  clear HL0
  case round =>
    obtain ⟨i, J, R, q, v, hi, rfl, HL⟩ := hrel
    by_cases hlt : i < len
    · have hlt' : (i : Int) < (len : Int) := by omega
      have hil : i < ol.length := by rw [HF.out.eq]; exact hlt
      obtain ⟨fb, fo, rfl, hfb, hrg⟩ := HF.out.cells i hil
      obtain ⟨hok, hho⟩ := HF.out.ok _ (List.getElem_mem hil)
      have HRG := Kp.mk (rangeAt_below HL.out.b hfb hrg)
      obtain ⟨x, hx⟩ : ∃ x, x = ol[i] := ⟨_, rfl⟩
      rw [← hx] at HRG hok hho
      clear hx hrg
      obtain ⟨xi, xa, xm, xv, xl⟩ := x
      simp only [] at hho
      obtain ⟨pa, pn, pc, rfl, hpn⟩ := hho.slice
      have HHO := Kp.mk hho
      have HOK := Kp.mk hok
      have HPN := Kp.mk hpn
      unfold pcc at HRG
      simp only [] at HRG
      have HA : Kp (LS w G D q J R v (wr.alloc (.cells #[.int .u32 xi, .int .i64 xa, .int .i64 xm, .slice pa pn pc] 25))) := ⟨HL.out.keep (more (Below.refl _ _) _)⟩
      have HPB : Kp (Blk (wr.alloc (.cells #[.int .u32 xi, .int .i64 xa, .int .i64 xm, .slice pa pn pc] 25)) wr.heap.size (.cells #[.int .u32 xi, .int .i64 xa, .int .i64 xm, .slice pa pn pc] 25)) := ⟨Blk.new _ _⟩
      clear hho hok hpn
      have hcase : (80 : Int) ≤ (i : Int) ∨ (¬ (80 : Int) ≤ (i : Int) ∧ (5000 : Int) < pn) ∨ (¬ (80 : Int) ≤ (i : Int) ∧ ¬ (5000 : Int) < pn) := by omega
      rcases hcase with h1 | ⟨h1, h2⟩ | ⟨h1, h2⟩
      · go_wp2_with (refine wpList_load_mid rfl 25 (.tmp 27) rfl fb (fo + i * 4) rfl [.int .u32 xi, .int .i64 xa, .int .i64 xm, .slice pa pn pc] _ HRG.out Try.underlying25 rfl info25s ?_)
        refine (awake_any _).mono ?_
        rintro r w9 ⟨rfl, hb9⟩
        have HB9 : Kp (Below w.heap.size w w9) := ⟨HA.out.b.trans (hb9.mono HA.out.b.size)⟩
        clear hb9
        go_wp2_with fail
        go_ret
        exact ⟨rfl, HB9.out⟩
      · go_wp2_with (refine wpList_load_mid rfl 25 (.tmp 27) rfl fb (fo + i * 4) rfl [.int .u32 xi, .int .i64 xa, .int .i64 xm, .slice pa pn pc] _ HRG.out Try.underlying25 rfl info25s ?_)
        refine (awake_any _).mono ?_
        rintro r w9 ⟨rfl, hb9⟩
        have HB9 : Kp (Below w.heap.size w w9) := ⟨HA.out.b.trans (hb9.mono HA.out.b.size)⟩
        clear hb9
        go_wp2_with fail
        go_ret
        exact ⟨rfl, HB9.out⟩
      · go_wp2_with (refine wpList_load_mid rfl 25 (.tmp 27) rfl fb (fo + i * 4) rfl [.int .u32 xi, .int .i64 xa, .int .i64 xm, .slice pa pn pc] _ HRG.out Try.underlying25 rfl info25s ?_)
        obtain ⟨P, hP⟩ : ∃ P, P = wr.heap.size := ⟨_, rfl⟩
        obtain ⟨W4, hW4⟩ : ∃ W4, W4 = wr.alloc (.cells #[.int .u32 xi, .int .i64 xa, .int .i64 xm, .slice pa pn pc] 25) := ⟨_, rfl⟩
        rw [← hP, ← hW4] at HPB
        rw [← hW4] at HA
        rw [← hP, ← hW4]
        clear hP hW4 HL HRG h1
        refine (to_any ⟨xi, xa, xm, pa, pn, pc⟩ xl W4 (HHO.out.grow HA.out.b) (by have := HPN.out; omega)).mono ?_
        rintro r w5 ⟨a5, c5, rfl, ho5, hb5⟩
        have HO5 := Kp.mk ho5
        have HA5 := Kp.mk (HA.out.keep hb5)
        have HPB5 := Kp.mk (HPB.out.keep hb5)
        have HJT : Kp (∀ y ∈ J.ps, HoldsB w5 W4.heap.size y.v y.l) := ⟨fun y hy => (HA.out.j.t y hy).1.keep hb5⟩
        have HS5 := Kp.mk hb5.size
        have HW4 : Kp (w.heap.size ≤ W4.heap.size) := ⟨HA.out.b.size⟩
        clear ho5 hb5
        go_wp2_with fail
        obtain ⟨I, hI⟩ : ∃ I, I = w5.heap.size := ⟨_, rfl⟩
        obtain ⟨W6, hW6⟩ : ∃ W6, W6 = w5.alloc (.cells #[.int .u32 xi, .int .i64 xa, .int .i64 xm, .slice a5 pn c5] 30) := ⟨_, rfl⟩
        have HA6 : Kp (LS w G D q J R v W6) := ⟨by rw [hW6]; exact HA5.out.keep (more (Below.refl _ _) _)⟩
        have HPB6 : Kp (Blk W6 P (.cells #[.int .u32 xi, .int .i64 xa, .int .i64 xm, .slice pa pn pc] 25)) := ⟨by rw [hW6]; exact HPB5.out.old _⟩
        have HIB6 : Kp (Blk W6 I (.cells #[.int .u32 xi, .int .i64 xa, .int .i64 xm, .slice a5 pn c5] 30)) := ⟨by rw [hW6]; exact Blk.newAt _ hI⟩
        have HO6 : Kp (W6.ownsRow W4.heap.size 5 1 (.slice a5 pn c5) xl.length (bv xl)) := ⟨by rw [hW6]; exact ownsRow_below HO5.out (more (Below.refl _ _) _)⟩
        have HI6 : Kp (w5.heap.size < W6.heap.size) := ⟨by rw [hW6]; simp⟩
        rw [← hI, ← hW6]
        clear hI hW6 HA5 HPB5 HA HPB
        refine (take_any G q J ⟨xi, xa, xm, a5, pn, c5⟩ xl W6 HA6.out.j (HoldsB.ofRow HHO.out.bytes HO6.out) HOK.out.i).mono ?_
        rintro r w7 ⟨q', v', u', rfl, hs, hu, hnv, hnu⟩
        have HAL : Kp (Alike (takeR J ⟨xi, xa, xm, a5, pn, c5⟩ xl v') (rtakeR R ⟨xi, xa, xm, pa, pn, pc⟩ xl)) := ⟨HA6.out.r.step (p := ⟨xi, xa, xm, pa, pn, pc⟩) HPN.out v'⟩
        have HPS : Kp (∀ y ∈ (takeR J ⟨xi, xa, xm, a5, pn, c5⟩ xl v').2.2.2.ps, y ∈ J.ps ∨ y = noPt ∨ y = ⟨true, v', xl⟩) := ⟨fun y hy => takeR_ps hy⟩
        obtain ⟨⟨E, dn, bo, J'⟩, hT⟩ : ∃ T, T = takeR J ⟨xi, xa, xm, a5, pn, c5⟩ xl v' := ⟨_, rfl⟩
        rw [← hT] at hs hu HAL HPS ⊢
        obtain ⟨⟨E2, dn2, bo2, R'⟩, hT2⟩ : ∃ T, T = rtakeR R ⟨xi, xa, xm, pa, pn, pc⟩ xl := ⟨_, rfl⟩
        rw [← hT2] at HAL
        obtain ⟨e1, e2, e3, hjr⟩ := HAL.out
        simp only [] at hs hu HPS e1 e2 e3 hjr ⊢
        subst e1 e2 e3
        have HT2 := Kp.mk hT2
        have HJR := Kp.mk hjr
        clear HAL hT hT2 hjr
        obtain ⟨ua, un, uc, rfl, -⟩ := hu.slice
        have HST := Kp.mk hs
        have HU7 := Kp.mk hu
        have HNV := Kp.mk hnv
        have HNU := Kp.mk hnu
        have M7 := Kp.mk (hs.blk HA6.out.j HA6.out.hq HA6.out.m (by decide) (by decide))
        have P7 := Kp.mk (hs.blk HA6.out.j HA6.out.hq HPB6.out (by decide) (by decide))
        have I7 := Kp.mk (hs.blk HA6.out.j HA6.out.hq HIB6.out (by decide) (by decide))
        have Q7 := Kp.mk (HA6.out.qr.jstep HA6.out.j HA6.out.hq hs HA6.out.hg HA6.out.hqb)
        have B7 : Kp (Below w.heap.size w w7) := ⟨HA6.out.b.trans (hs.below HA6.out.hg HA6.out.hqb HA6.out.b.size)⟩
        have O7 : Kp (w7.ownsRow W4.heap.size 5 1 (.slice a5 pn c5) xl.length (bv xl)) := ⟨by
          refine ownsRow_same HO6.out fun k hk => ?_
          obtain ⟨cur, hc⟩ := ownsRow_type HO6.out hk
          exact (hs.blk HA6.out.j HA6.out.hq hc (by decide) (by decide)).trans hc.symm⟩
        have HLAST : Kp (w.heap.size ≤ q' ∧ W4.heap.size ≤ w7.heap.size ∧ w.heap.size ≤ W4.heap.size) := ⟨by
          refine ⟨?_, ?_, ?_⟩
          · rcases hs.at_ with e | e
            · rw [e]; exact HA6.out.hqb
            · have := HA6.out.b.size; omega
          · have := HS5.out; have := HI6.out; have := hs.size; omega
          · exact HW4.out⟩
        have cI : w7.cell? ⟨I, 3, none⟩ = some (.slice a5 pn c5) := I7.out.cell 3
        clear hs hu hnv hnu HPB6 HIB6 HO6
        by_cases h0 : pn = 0
        · have hp0 : ¬ (0 : Int) < (pn : Int) := by omega
          clear h0
          have X7 : Kp (∃ bi, XRel bi w7 w7 ∧ W4.heap.size ≤ bi ∧ (bi < w5.heap.size ∨ w7.heap.size ≤ bi) ∧ (∀ k cs t fr, w7.heap[k]? = some (.cells cs t fr) → t ≠ 5 → k ≠ bi)) := ⟨w7.heap.size, XRel.refl _ _, HLAST.out.2.1, .inr (Nat.le_refl _), fun k cs t fr hk _ => by have := (Array.getElem?_eq_some_iff.1 hk).1; omega⟩
          go_wp2_with fail
          clear cI
          go_loopw [49] (fun c wr => c = .int .i64 0 ∧ wr = w7) (fun _ _ => 0)
          case atStart => exact ⟨rfl, rfl⟩
          case round =>
            obtain ⟨rfl, rfl⟩ := hrel
            obtain ⟨W8, hW8⟩ : ∃ W8 : World, W8 = wr := ⟨_, rfl⟩
            have X8 : Kp (∃ bi, XRel bi wr W8 ∧ W4.heap.size ≤ bi ∧ (bi < w5.heap.size ∨ wr.heap.size ≤ bi) ∧ (∀ k cs t fr, wr.heap[k]? = some (.cells cs t fr) → t ≠ 5 → k ≠ bi)) := ⟨by rw [hW8]; exact X7.out⟩
            have X9 := X8
            rw [← hW8]
            clear hW8 X7
            obtain ⟨bx, hx, b1, b2, b3⟩ := X8.out
            have hawp : ∀ y ∈ J'.ps, Away bx y.v y.l := fun y hy => by
              rcases HPS.out y hy with h | h | h
              · exact (HJT.out y h).away b1
              · rw [h]; intro a n c e; cases e
              · rcases b2 with b2 | b2
                · rw [h]; exact HNV.out.away (by have := HI6.out; omega)
                · exact (HST.out.is.t y hy).1.away b2
            have hawu : Away bx (.slice ua un uc) bo := by
              rcases b2 with b2 | b2
              · exact HNU.out.away (by have := HI6.out; omega)
              · exact HU7.out.away b2
            have HJ8 : Kp (JIs W8 G q' J') := ⟨HST.out.is.around (b3 G _ _ _ HST.out.is.b (by decide)) (fun h0 => b3 q' _ _ _ (HST.out.is.r h0) (by decide)) hawp hx⟩
            have HU8 : Kp (HoldsB W8 W8.heap.size (.slice ua un uc) bo) := ⟨(HU7.out.around hawu hx.size hx.other).mono hx.size⟩
            have M8 : Kp (Blk W8 D (.cells (rjc R v) 51)) := ⟨hx.blk M7.out (b3 D _ _ _ M7.out (by decide))⟩
            have P8 : Kp (Blk W8 P (.cells #[.int .u32 xi, .int .i64 xa, .int .i64 xm, .slice pa pn pc] 25)) := ⟨hx.blk P7.out (b3 P _ _ _ P7.out (by decide))⟩
            have Q8 : Kp (QRow W8 w.heap.size v R.ps) := ⟨Q7.out.around (by have := HLAST.out; omega) (fun k cur hk => b3 k _ _ _ hk (by decide)) hx⟩
            have B8 : Kp (Below w.heap.size w W8) := ⟨B7.out.trans (hx.below (by have := HLAST.out; omega) B7.out.size)⟩
            obtain ⟨q2, hj2, hq2, hqb2⟩ : ∃ q2, JIs W8 G q2 J' ∧ (q2 = G ∨ 0 < J'.ps.length) ∧ w.heap.size ≤ q2 := by
              by_cases h0 : J'.ps.length = 0
              · exact ⟨G, HJ8.out.any h0, .inl rfl, HA6.out.hg⟩
              · exact ⟨q', HJ8.out, .inr (by omega), HLAST.out.1⟩
            have HJ2 := Kp.mk hj2
            have HQ2 := Kp.mk (And.intro hq2 hqb2)
            clear hx b1 b2 b3 hawp hawu hj2 hq2 hqb2 X8 HST HU7 M7 P7 I7 Q7 B7 O7 HNV HNU HPS HJT HO5
            obtain ⟨va, vn, vc, rfl, -⟩ := Q8.out.shape
            obtain ⟨m0, m1, m2, m3, m4⟩ : W8.cell? ⟨D, 0, none⟩ = some (.bool R.any) ∧ W8.cell? ⟨D, 1, none⟩ = some (.bool R.over) ∧ W8.cell? ⟨D, 2, none⟩ = some (.int .u32 R.id) ∧ W8.cell? ⟨D, 3, none⟩ = some (.int .i64 R.many) ∧ W8.cell? ⟨D, 4, none⟩ = some (.slice va vn vc) := ⟨M8.out.cell 0, M8.out.cell 1, M8.out.cell 2, M8.out.cell 3, M8.out.cell 4⟩
            obtain ⟨p0, p1, p2, p3⟩ : W8.cell? ⟨P, 0, none⟩ = some (.int .u32 xi) ∧ W8.cell? ⟨P, 1, none⟩ = some (.int .i64 xa) ∧ W8.cell? ⟨P, 2, none⟩ = some (.int .i64 xm) ∧ W8.cell? ⟨P, 3, none⟩ = some (.slice pa pn pc) := ⟨P8.out.cell 0, P8.out.cell 1, P8.out.cell 2, P8.out.cell 3⟩
            go_wp2_with fail
            clear m0 m1 m2 m3 m4 p0 p1 p2 p3
            refine (rtake_any w.heap.size R (.slice va vn vc) ⟨xi, xa, xm, pa, pn, pc⟩ xl W8 B8.out.size Q8.out (HHO.out.keep B8.out) (HA6.out.r.bounds HA6.out.j.n).1 (HA6.out.r.bounds HA6.out.j.n).2.1 (HA6.out.r.bounds HA6.out.j.n).2.2).mono ?_
            rintro r w9 ⟨u9, v9, rfl, hu9, hq9, hb9⟩
            rw [← HT2.out] at hu9 hq9 ⊢
            simp only [] at hu9 hq9 ⊢
            obtain ⟨ca, cn, cc, rfl, -⟩ := hu9.slice
            obtain ⟨va9, vn9, vc9, rfl, -⟩ := hq9.shape
            have HBN : Kp (Below W8.heap.size W8 (w9.alloc (.cells #[.bool R'.any, .bool R'.over, .int .u32 R'.id, .int .i64 R'.many, .slice va9 vn9 vc9] 51))) := ⟨hb9.alloc hb9.size _⟩
            have HQN : Kp (QRow (w9.alloc (.cells #[.bool R'.any, .bool R'.over, .int .u32 R'.id, .int .i64 R'.many, .slice va9 vn9 vc9] 51)) w.heap.size (.slice va9 vn9 vc9) R'.ps) := ⟨hq9.keep (more (Below.refl _ _) _)⟩
            have tx := (HU8.out.grow HBN.out).text
            have ty := (hu9.alloc (.cells #[.bool R'.any, .bool R'.over, .int .u32 R'.id, .int .i64 R'.many, .slice va9 vn9 vc9] 51)).text
            have MN : Kp (Blk (w9.alloc (.cells #[.bool R'.any, .bool R'.over, .int .u32 R'.id, .int .i64 R'.many, .slice va9 vn9 vc9] 51)) D (.cells (rjc R (.slice va vn vc)) 51)) := ⟨M8.out.keep HBN.out⟩
            have NN : Kp (Blk (w9.alloc (.cells #[.bool R'.any, .bool R'.over, .int .u32 R'.id, .int .i64 R'.many, .slice va9 vn9 vc9] 51)) w9.heap.size (.cells #[.bool R'.any, .bool R'.over, .int .u32 R'.id, .int .i64 R'.many, .slice va9 vn9 vc9] 51)) := ⟨Blk.new _ _⟩
            have HDN : Kp (D < w9.heap.size) := ⟨Nat.lt_of_lt_of_le M8.out.lt hb9.size⟩
            obtain ⟨n0, n1, n2, n3, n4⟩ : (w9.alloc (.cells #[.bool R'.any, .bool R'.over, .int .u32 R'.id, .int .i64 R'.many, .slice va9 vn9 vc9] 51)).cell? ⟨D, 0, none⟩ = some (.bool R.any) ∧ (w9.alloc (.cells #[.bool R'.any, .bool R'.over, .int .u32 R'.id, .int .i64 R'.many, .slice va9 vn9 vc9] 51)).cell? ⟨D, 1, none⟩ = some (.bool R.over) ∧ (w9.alloc (.cells #[.bool R'.any, .bool R'.over, .int .u32 R'.id, .int .i64 R'.many, .slice va9 vn9 vc9] 51)).cell? ⟨D, 2, none⟩ = some (.int .u32 R.id) ∧ (w9.alloc (.cells #[.bool R'.any, .bool R'.over, .int .u32 R'.id, .int .i64 R'.many, .slice va9 vn9 vc9] 51)).cell? ⟨D, 3, none⟩ = some (.int .i64 R.many) ∧ (w9.alloc (.cells #[.bool R'.any, .bool R'.over, .int .u32 R'.id, .int .i64 R'.many, .slice va9 vn9 vc9] 51)).cell? ⟨D, 4, none⟩ = some (.slice va vn vc) := ⟨MN.out.cell 0, MN.out.cell 1, MN.out.cell 2, MN.out.cell 3, MN.out.cell 4⟩
            obtain ⟨f0, f1, f2, f3, f4⟩ : (w9.alloc (.cells #[.bool R'.any, .bool R'.over, .int .u32 R'.id, .int .i64 R'.many, .slice va9 vn9 vc9] 51)).frozen? ⟨D, 0, none⟩ = false ∧ (w9.alloc (.cells #[.bool R'.any, .bool R'.over, .int .u32 R'.id, .int .i64 R'.many, .slice va9 vn9 vc9] 51)).frozen? ⟨D, 1, none⟩ = false ∧ (w9.alloc (.cells #[.bool R'.any, .bool R'.over, .int .u32 R'.id, .int .i64 R'.many, .slice va9 vn9 vc9] 51)).frozen? ⟨D, 2, none⟩ = false ∧ (w9.alloc (.cells #[.bool R'.any, .bool R'.over, .int .u32 R'.id, .int .i64 R'.many, .slice va9 vn9 vc9] 51)).frozen? ⟨D, 3, none⟩ = false ∧ (w9.alloc (.cells #[.bool R'.any, .bool R'.over, .int .u32 R'.id, .int .i64 R'.many, .slice va9 vn9 vc9] 51)).frozen? ⟨D, 4, none⟩ = false := ⟨MN.out.frozen 0, MN.out.frozen 1, MN.out.frozen 2, MN.out.frozen 3, MN.out.frozen 4⟩
            have L11 : Kp (LS w G D q2 J' R' (.slice va9 vn9 vc9) ((w9.alloc (.cells #[.bool R'.any, .bool R'.over, .int .u32 R'.id, .int .i64 R'.many, .slice va9 vn9 vc9] 51)).setCells D 0 [.bool R'.any, .bool R'.over, .int .u32 R'.id, .int .i64 R'.many, .slice va9 vn9 vc9])) := ⟨LS.put (HJ2.out.keep HBN.out) MN.out (Q8.out.keep HBN.out) HQN.out HJR.out (B8.out.trans (HBN.out.mono B8.out.size)) HQ2.out.1 HA6.out.hg HQ2.out.2 HA6.out.hd (turn5 MN.out _ _ _ _ _)⟩
            generalize strOfNums bo = sb at tx ty
            clear hu9 hq9 hb9
            go_wp2_with fail
            clear tx ty n0 n1 n2 n3 n4 f0 f1 f2 f3 f4
            refine calls_world (fun W => LS w G D q2 J' R' (.slice va9 vn9 vc9) W) L11.out ?_
            intro W11 hL11
            clear L11
            refine (waits_any G q2 J' W11 hL11.j).mono ?_
            rintro r w12 ⟨rfl, hb12⟩
            have L12 := Kp.mk (hL11.keep hb12)
            obtain ⟨m0, m1, m2, m3, m4⟩ : w12.cell? ⟨D, 0, none⟩ = some (.bool R'.any) ∧ w12.cell? ⟨D, 1, none⟩ = some (.bool R'.over) ∧ w12.cell? ⟨D, 2, none⟩ = some (.int .u32 R'.id) ∧ w12.cell? ⟨D, 3, none⟩ = some (.int .i64 R'.many) ∧ w12.cell? ⟨D, 4, none⟩ = some (.slice va9 vn9 vc9) := ⟨L12.out.m.cell 0, L12.out.m.cell 1, L12.out.m.cell 2, L12.out.m.cell 3, L12.out.m.cell 4⟩
            obtain ⟨z1, hz1⟩ : ∃ z1 : Nat, z1 = haves J'.ps := ⟨_, rfl⟩
            obtain ⟨z2, hz2⟩ : ∃ z2 : Nat, z2 = J'.ps.length := ⟨_, rfl⟩
            rw [← hz1, ← hz2]
            have HZ := Kp.mk (And.intro hz1 hz2)
            clear hL11 hb12 hz1 hz2
            go_wp2_with fail
            clear m0 m1 m2 m3 m4
            refine (rwaits_any w.heap.size R' (.slice va9 vn9 vc9) w12 L12.out.qr).mono ?_
            rintro r w13 ⟨rfl, hb13⟩
            rw [← HJR.out.waits.1, ← HJR.out.waits.2, ← HZ.out.1, ← HZ.out.2]
            have L13 := Kp.mk (L12.out.keep hb13)
            clear hb13 L12 HZ
            go_wp2_with fail
            exact ⟨⟨i + 1, J', R', q2, _, by omega, by go_num, L13⟩, by simp [intOf]; omega⟩
        · obtain ⟨bi, cap5, cur5, e5, hbi, hbk5⟩ := row_form O7.out (by have := HPN.out; omega)
          have hxl : xl.length = pn := HPN.out.symm
          simp only [Value.slice.injEq] at e5
          obtain ⟨rfl, -, rfl⟩ := e5
          have HBI : Kp (W4.heap.size ≤ bi ∧ bi < w5.heap.size) := ⟨hbi, by
            obtain ⟨g, c, cu, e, -, hk⟩ := row_form HO5.out (by have := HPN.out; omega)
            simp only [Value.slice.injEq, Option.some.injEq, Addr.mk.injEq, true_and, and_true] at e
            rw [e.1]
            exact hk.lt⟩
          have HB5K := Kp.mk hbk5
          have O7' : Kp (w7.ownsRow W4.heap.size 5 1 (.slice (some ⟨bi, 0, none⟩) pn c5) pn (bv xl)) := ⟨by have := O7.out; rw [hxl] at this; exact this⟩
          have HXL := Kp.mk hxl
          have hpn5 : (pn : Int) ≤ 5000 := by omega
          clear hbi hbk5 hxl
          go_wp2_with fail
          clear cI
          go_loopw [49] (fun c wr => ∃ (k : Nat) (ys : List Int), k ≤ pn ∧ c = .int .i64 k ∧ ys.length = pn ∧ Kp (wr.ownsRow W4.heap.size 5 1 (.slice (some ⟨bi, 0, none⟩) pn c5) pn (bv ys)) ∧ Kp (XRel bi w7 wr)) (fun c _ => pn - (intOf c).toNat)
          case atStart => exact ⟨0, xl, by omega, rfl, HXL.out, O7', ⟨XRel.refl _ _⟩⟩
          case round =>
            obtain ⟨k, ys, hk, rfl, hys, HO8, HX8⟩ := hrel
            have cI : wr.cell? ⟨I, 3, none⟩ = some (.slice (some ⟨bi, 0, none⟩) pn c5) := (HX8.out.blk I7.out (cells_ne I7.out HB5K.out (by decide))).cell 3
            by_cases hkt : k < pn
            · have hkt' : (k : Int) < (pn : Int) := by omega
              have hc : wr.cell? ⟨bi, k, none⟩ = some (.int .u8 (ys.getD k 0)) := (HO8.out.cellAt k (by omega)).trans (bv_getD (by omega))
              have hfz := HO8.out.frozenAt k
              generalize ys.getD k 0 = y at hc
              have hys' := Kp.mk hys
              clear hys
              go_wp2_with fail
              obtain ⟨g, c, cu, e, -, hkb⟩ := row_form HO8.out (by omega)
              simp only [Value.slice.injEq, Option.some.injEq, Addr.mk.injEq, true_and, and_true] at e
              obtain ⟨rfl, -⟩ := e
              exact ⟨⟨k + 1, ys.set k _, by omega, by go_num, by rw [List.length_set]; exact hys'.out, ⟨bytes_turn HO8.out k _⟩, ⟨HX8.out.turn ((Turn.same hkb).set k _)⟩⟩, by simp [intOf]; omega⟩
            · have hke : k = pn := by omega
              have hkl : ¬ (k : Int) < (pn : Int) := by omega
              obtain ⟨W8, hW8⟩ : ∃ W8 : World, W8 = wr := ⟨_, rfl⟩
              have X8 : Kp (∃ bi, XRel bi w7 W8 ∧ W4.heap.size ≤ bi ∧ (bi < w5.heap.size ∨ w7.heap.size ≤ bi) ∧ (∀ k cs t fr, w7.heap[k]? = some (.cells cs t fr) → t ≠ 5 → k ≠ bi)) := ⟨bi, by rw [hW8]; exact HX8.out, HBI.out.1, .inl HBI.out.2, fun k cs t fr h1 h2 => cells_ne h1 HB5K.out h2⟩
              rw [← hW8]
              clear hW8 HX8 HO8 hys cI
              obtain ⟨bx, hx, b1, b2, b3⟩ := X8.out
              have hawp : ∀ y ∈ J'.ps, Away bx y.v y.l := fun y hy => by
                rcases HPS.out y hy with h | h | h
                · exact (HJT.out y h).away b1
                · rw [h]; intro a n c e; cases e
                · rcases b2 with b2 | b2
                  · rw [h]; exact HNV.out.away (by have := HI6.out; omega)
                  · exact (HST.out.is.t y hy).1.away b2
              have hawu : Away bx (.slice ua un uc) bo := by
                rcases b2 with b2 | b2
                · exact HNU.out.away (by have := HI6.out; omega)
                · exact HU7.out.away b2
              have HJ8 : Kp (JIs W8 G q' J') := ⟨HST.out.is.around (b3 G _ _ _ HST.out.is.b (by decide)) (fun h0 => b3 q' _ _ _ (HST.out.is.r h0) (by decide)) hawp hx⟩
              have HU8 : Kp (HoldsB W8 W8.heap.size (.slice ua un uc) bo) := ⟨(HU7.out.around hawu hx.size hx.other).mono hx.size⟩
              have M8 : Kp (Blk W8 D (.cells (rjc R v) 51)) := ⟨hx.blk M7.out (b3 D _ _ _ M7.out (by decide))⟩
              have P8 : Kp (Blk W8 P (.cells #[.int .u32 xi, .int .i64 xa, .int .i64 xm, .slice pa pn pc] 25)) := ⟨hx.blk P7.out (b3 P _ _ _ P7.out (by decide))⟩
              have Q8 : Kp (QRow W8 w.heap.size v R.ps) := ⟨Q7.out.around (by have := HLAST.out; omega) (fun k cur hk => b3 k _ _ _ hk (by decide)) hx⟩
              have B8 : Kp (Below w.heap.size w W8) := ⟨B7.out.trans (hx.below (by have := HLAST.out; omega) B7.out.size)⟩
              obtain ⟨q2, hj2, hq2, hqb2⟩ : ∃ q2, JIs W8 G q2 J' ∧ (q2 = G ∨ 0 < J'.ps.length) ∧ w.heap.size ≤ q2 := by
                by_cases h0 : J'.ps.length = 0
                · exact ⟨G, HJ8.out.any h0, .inl rfl, HA6.out.hg⟩
                · exact ⟨q', HJ8.out, .inr (by omega), HLAST.out.1⟩
              have HJ2 := Kp.mk hj2
              have HQ2 := Kp.mk (And.intro hq2 hqb2)
              clear hx b1 b2 b3 hawp hawu hj2 hq2 hqb2 X8 HST HU7 M7 P7 I7 Q7 B7 O7 HNV HNU HPS HJT HO5
              obtain ⟨va, vn, vc, rfl, -⟩ := Q8.out.shape
              obtain ⟨m0, m1, m2, m3, m4⟩ : W8.cell? ⟨D, 0, none⟩ = some (.bool R.any) ∧ W8.cell? ⟨D, 1, none⟩ = some (.bool R.over) ∧ W8.cell? ⟨D, 2, none⟩ = some (.int .u32 R.id) ∧ W8.cell? ⟨D, 3, none⟩ = some (.int .i64 R.many) ∧ W8.cell? ⟨D, 4, none⟩ = some (.slice va vn vc) := ⟨M8.out.cell 0, M8.out.cell 1, M8.out.cell 2, M8.out.cell 3, M8.out.cell 4⟩
              obtain ⟨p0, p1, p2, p3⟩ : W8.cell? ⟨P, 0, none⟩ = some (.int .u32 xi) ∧ W8.cell? ⟨P, 1, none⟩ = some (.int .i64 xa) ∧ W8.cell? ⟨P, 2, none⟩ = some (.int .i64 xm) ∧ W8.cell? ⟨P, 3, none⟩ = some (.slice pa pn pc) := ⟨P8.out.cell 0, P8.out.cell 1, P8.out.cell 2, P8.out.cell 3⟩
              go_wp2_with fail
              clear m0 m1 m2 m3 m4 p0 p1 p2 p3
              refine (rtake_any w.heap.size R (.slice va vn vc) ⟨xi, xa, xm, pa, pn, pc⟩ xl W8 B8.out.size Q8.out (HHO.out.keep B8.out) (HA6.out.r.bounds HA6.out.j.n).1 (HA6.out.r.bounds HA6.out.j.n).2.1 (HA6.out.r.bounds HA6.out.j.n).2.2).mono ?_
              rintro r w9 ⟨u9, v9, rfl, hu9, hq9, hb9⟩
              rw [← HT2.out] at hu9 hq9 ⊢
              simp only [] at hu9 hq9 ⊢
              obtain ⟨ca, cn, cc, rfl, -⟩ := hu9.slice
              obtain ⟨va9, vn9, vc9, rfl, -⟩ := hq9.shape
              have HBN : Kp (Below W8.heap.size W8 (w9.alloc (.cells #[.bool R'.any, .bool R'.over, .int .u32 R'.id, .int .i64 R'.many, .slice va9 vn9 vc9] 51))) := ⟨hb9.alloc hb9.size _⟩
              have HQN : Kp (QRow (w9.alloc (.cells #[.bool R'.any, .bool R'.over, .int .u32 R'.id, .int .i64 R'.many, .slice va9 vn9 vc9] 51)) w.heap.size (.slice va9 vn9 vc9) R'.ps) := ⟨hq9.keep (more (Below.refl _ _) _)⟩
              have tx := (HU8.out.grow HBN.out).text
              have ty := (hu9.alloc (.cells #[.bool R'.any, .bool R'.over, .int .u32 R'.id, .int .i64 R'.many, .slice va9 vn9 vc9] 51)).text
              have MN : Kp (Blk (w9.alloc (.cells #[.bool R'.any, .bool R'.over, .int .u32 R'.id, .int .i64 R'.many, .slice va9 vn9 vc9] 51)) D (.cells (rjc R (.slice va vn vc)) 51)) := ⟨M8.out.keep HBN.out⟩
              have NN : Kp (Blk (w9.alloc (.cells #[.bool R'.any, .bool R'.over, .int .u32 R'.id, .int .i64 R'.many, .slice va9 vn9 vc9] 51)) w9.heap.size (.cells #[.bool R'.any, .bool R'.over, .int .u32 R'.id, .int .i64 R'.many, .slice va9 vn9 vc9] 51)) := ⟨Blk.new _ _⟩
              have HDN : Kp (D < w9.heap.size) := ⟨Nat.lt_of_lt_of_le M8.out.lt hb9.size⟩
              obtain ⟨n0, n1, n2, n3, n4⟩ : (w9.alloc (.cells #[.bool R'.any, .bool R'.over, .int .u32 R'.id, .int .i64 R'.many, .slice va9 vn9 vc9] 51)).cell? ⟨D, 0, none⟩ = some (.bool R.any) ∧ (w9.alloc (.cells #[.bool R'.any, .bool R'.over, .int .u32 R'.id, .int .i64 R'.many, .slice va9 vn9 vc9] 51)).cell? ⟨D, 1, none⟩ = some (.bool R.over) ∧ (w9.alloc (.cells #[.bool R'.any, .bool R'.over, .int .u32 R'.id, .int .i64 R'.many, .slice va9 vn9 vc9] 51)).cell? ⟨D, 2, none⟩ = some (.int .u32 R.id) ∧ (w9.alloc (.cells #[.bool R'.any, .bool R'.over, .int .u32 R'.id, .int .i64 R'.many, .slice va9 vn9 vc9] 51)).cell? ⟨D, 3, none⟩ = some (.int .i64 R.many) ∧ (w9.alloc (.cells #[.bool R'.any, .bool R'.over, .int .u32 R'.id, .int .i64 R'.many, .slice va9 vn9 vc9] 51)).cell? ⟨D, 4, none⟩ = some (.slice va vn vc) := ⟨MN.out.cell 0, MN.out.cell 1, MN.out.cell 2, MN.out.cell 3, MN.out.cell 4⟩
              obtain ⟨f0, f1, f2, f3, f4⟩ : (w9.alloc (.cells #[.bool R'.any, .bool R'.over, .int .u32 R'.id, .int .i64 R'.many, .slice va9 vn9 vc9] 51)).frozen? ⟨D, 0, none⟩ = false ∧ (w9.alloc (.cells #[.bool R'.any, .bool R'.over, .int .u32 R'.id, .int .i64 R'.many, .slice va9 vn9 vc9] 51)).frozen? ⟨D, 1, none⟩ = false ∧ (w9.alloc (.cells #[.bool R'.any, .bool R'.over, .int .u32 R'.id, .int .i64 R'.many, .slice va9 vn9 vc9] 51)).frozen? ⟨D, 2, none⟩ = false ∧ (w9.alloc (.cells #[.bool R'.any, .bool R'.over, .int .u32 R'.id, .int .i64 R'.many, .slice va9 vn9 vc9] 51)).frozen? ⟨D, 3, none⟩ = false ∧ (w9.alloc (.cells #[.bool R'.any, .bool R'.over, .int .u32 R'.id, .int .i64 R'.many, .slice va9 vn9 vc9] 51)).frozen? ⟨D, 4, none⟩ = false := ⟨MN.out.frozen 0, MN.out.frozen 1, MN.out.frozen 2, MN.out.frozen 3, MN.out.frozen 4⟩
              have L11 : Kp (LS w G D q2 J' R' (.slice va9 vn9 vc9) ((w9.alloc (.cells #[.bool R'.any, .bool R'.over, .int .u32 R'.id, .int .i64 R'.many, .slice va9 vn9 vc9] 51)).setCells D 0 [.bool R'.any, .bool R'.over, .int .u32 R'.id, .int .i64 R'.many, .slice va9 vn9 vc9])) := ⟨LS.put (HJ2.out.keep HBN.out) MN.out (Q8.out.keep HBN.out) HQN.out HJR.out (B8.out.trans (HBN.out.mono B8.out.size)) HQ2.out.1 HA6.out.hg HQ2.out.2 HA6.out.hd (turn5 MN.out _ _ _ _ _)⟩
              generalize strOfNums bo = sb at tx ty
              clear hu9 hq9 hb9
              go_wp2_with fail
              clear tx ty n0 n1 n2 n3 n4 f0 f1 f2 f3 f4
              refine calls_world (fun W => LS w G D q2 J' R' (.slice va9 vn9 vc9) W) L11.out ?_
              intro W11 hL11
              clear L11
              refine (waits_any G q2 J' W11 hL11.j).mono ?_
              rintro r w12 ⟨rfl, hb12⟩
              have L12 := Kp.mk (hL11.keep hb12)
              obtain ⟨m0, m1, m2, m3, m4⟩ : w12.cell? ⟨D, 0, none⟩ = some (.bool R'.any) ∧ w12.cell? ⟨D, 1, none⟩ = some (.bool R'.over) ∧ w12.cell? ⟨D, 2, none⟩ = some (.int .u32 R'.id) ∧ w12.cell? ⟨D, 3, none⟩ = some (.int .i64 R'.many) ∧ w12.cell? ⟨D, 4, none⟩ = some (.slice va9 vn9 vc9) := ⟨L12.out.m.cell 0, L12.out.m.cell 1, L12.out.m.cell 2, L12.out.m.cell 3, L12.out.m.cell 4⟩
              obtain ⟨z1, hz1⟩ : ∃ z1 : Nat, z1 = haves J'.ps := ⟨_, rfl⟩
              obtain ⟨z2, hz2⟩ : ∃ z2 : Nat, z2 = J'.ps.length := ⟨_, rfl⟩
              rw [← hz1, ← hz2]
              have HZ := Kp.mk (And.intro hz1 hz2)
              clear hL11 hb12 hz1 hz2
              go_wp2_with fail
              clear m0 m1 m2 m3 m4
              refine (rwaits_any w.heap.size R' (.slice va9 vn9 vc9) w12 L12.out.qr).mono ?_
              rintro r w13 ⟨rfl, hb13⟩
              rw [← HJR.out.waits.1, ← HJR.out.waits.2, ← HZ.out.1, ← HZ.out.2]
              have L13 := Kp.mk (L12.out.keep hb13)
              clear hb13 L12 HZ
              go_wp2_with fail
              exact ⟨⟨i + 1, J', R', q2, _, by omega, by go_num, L13⟩, by simp [intOf]; omega⟩
    · have hee : i = len := by omega
      have hle : ¬ (i : Int) < (len : Int) := by omega
      go_wp2_with fail
      refine (awake_any _).mono ?_
      rintro r w9 ⟨rfl, hb9⟩
      have HB9 : Kp (Below w.heap.size w w9) := ⟨HL.out.b.trans (hb9.mono HL.out.b.size)⟩
      clear hb9
      go_wp2_with fail
      go_ret
      exact ⟨rfl, HB9.out⟩
end Go.Proofs.Ytlgcpfeaecpocaa
