/-
  The walk of the law FieldTakes.
-/
import Derived.Test.YtgpjffchpppceaaTakeP
namespace Go.Proofs.Ytgpjffchpppceaa
open Go.RowKit

/-- While the bytes that Take read from are turned. -/
structure Tur (B I R B1 n : Nat) (V v1 u : Value) (z : List Int) (w : World) (ys : List Int) (w1 : World) : Prop where
  inp : w1.ownsRow B 5 1 V n (bv ys)
  own : w1.ownsRow B1 5 1 v1 z.length (bv z)
  bi : Blk w1 I (inObj v1 0)
  br : Blk w1 R (refObj u 0 0)
  below : Below B w w1
theorem Tur.step {B I R B1 n g cap : Nat} {v1 u : Value} {z ys : List Int} {w w1 : World} (h : Tur B I R B1 n (.slice (some ⟨g, 0, none⟩) n cap) v1 u z w ys w1) (hg : g < B1) (hI : B1 ≤ I) (hR : I < R) (i : Nat) (x : Int) :
    Tur B I R B1 n (.slice (some ⟨g, 0, none⟩) n cap) v1 u z w (ys.set i x) (w1.setCell ⟨g, i, none⟩ (.int .u8 x)) := by
  have hgs := h.inp.lt g rfl
  rcases h.inp.2 with ⟨h1, _⟩ | ⟨g', cap', cur, h1, hb, hheap, _⟩
  · simp at h1
  · simp only [Value.slice.injEq, Option.some.injEq, Addr.mk.injEq, and_true, true_and] at h1
    obtain ⟨rfl, rfl⟩ := h1
    have hblk : Blk w1 g (.cells cur 5 (0, 0)) := hheap
    have T := (Turn.same hblk).set i (.int .u8 x)
    exact ⟨bytes_turn h.inp i x, ownsRow_turn h.own T hg, T.keep h.bi (by omega), T.keep h.br (by omega), h.below.trans (T.below hb (by omega))⟩
theorem bv_getD {ys : List Int} {i : Nat} (h : i < ys.length) : (bv ys)[i]? = some (.int .u8 (ys.getD i 0)) := by
  unfold bv
  rw [List.getElem?_map, List.getD_eq_getElem?_getD, List.getElem?_eq_getElem h]; rfl
theorem end_rel {l z : List Int} {e : Int} {at' : Nat} (h : Rel l e z at') (hn : e ≠ 0 → l = []) : endE l e = if 0 < rleft z at' e then 10 else e := by
  rw [← h.left]
  unfold endE failE
  by_cases he : e = 0
  · subst he; simp
  · simp [hn he]
theorem Bth.last {M I R at1 : Nat} {B l1 : List Int} {e1 e2 : Int} {w0 w w1 w2 : World} {o : Obj} {C : Nat} (h : Bth M I R B l1 e1 at1 e2 w w1) (k : Turn R o w1 w2) (hb : Below C w0 w) (hI : C ≤ I) (hR : C ≤ R) (hC : C ≤ w.heap.size) : Below C w0 w2 :=
  hb.trans ⟨k.os.trans h.os, k.tape.trans h.tape, k.output.trans h.output, Nat.le_trans h.size k.size, fun i hi => (k.other i (by have := h.size; omega) (by omega)).trans (h.other i (by omega) (by omega) (by omega))⟩

theorem row_form {w : World} {base n : Nat} {v : Value} {xs : List Value} (h : w.ownsRow base 5 1 v n xs) (hn : 0 < n) : ∃ g cap, v = .slice (some ⟨g, 0, none⟩) n cap ∧ base ≤ g ∧ g < w.heap.size := by
  rcases h.2 with ⟨_, h0⟩ | ⟨g, cap, cur, rfl, hb, _⟩
  · omega
  · exact ⟨g, cap, rfl, hb, (h.lt g rfl).2⟩
set_option maxRecDepth 100000 in
set_option maxHeartbeats 6400000 in
theorem fieldTakes_walk (a0 : Option Addr) (len0 cap0 : Nat) (z : List Int) (a1 : Option Addr) (len1 cap1 : Nat) (C : Nat → List Value) (w : World)
    (hz : HoldsB w w.heap.size (.slice a0 len0 cap0) z) (hreach : len0 ≤ 140737488351232) (hC : IsItems w a1 len1 C) :
    Calls Try.prog 4 #[.slice a0 len0 cap0, .slice a1 len1 cap1] w fun r w' => r = .returned (.bool true) ∧ Below w.heap.size w w' := by
  obtain ⟨i0, hi, hz0, hz1, hz2⟩ := info_parts info5
  have hlen : len0 = z.length := by
    obtain ⟨_, n1, _, h1, h2⟩ := hz.slice
    simp only [Value.slice.injEq] at h1
    omega
  have HZ := Lib.hid hz
  obtain ⟨hl1, hC⟩ := hC
  unfold maxLen at hl1
  have HC := Lib.hid hC
  have HLEN := Lib.hid hlen
  have HRE := Lib.hid hreach
  have HBs : Hid (Bytes z) := hz.bytes
  cases a0
  case' none =>
    have hl : z = [] := by
      obtain ⟨a', cap', h1, h2, h3, h4, h5, h6, h7⟩ := hz
      simp only [Value.slice.injEq] at h1
      have := h4 h1.1.symm
      exact List.length_eq_zero_iff.1 (by omega)
    have hc : cap0 = 0 := by
      obtain ⟨a', cap', h1, h2, h3, h4, h5, h6, h7⟩ := hz
      simp only [Value.slice.injEq] at h1
      have := h4 h1.1.symm
      omega
    have hn0 : len0 = 0 := by simpa [hl] using hlen
    have HL := Lib.hid hl
    clear hz hC hlen hreach hl
    subst hc hn0
    go_enter Try.func4, Try.ntmps4
    go_wp2_with (at_builtin; refine wpList_append_own_none rfl _ _ 26 rfl w.heap.size 5 i0 1 Try.underlying26 hi _ _ _ rfl (World.ownsRow_made w #[] 0 (Nat.le_refl _) (by decide) rfl) rfl ?_)
    have HO : Hid ((w.alloc (.cells #[] 5)).ownsRow w.heap.size 5 1 (.slice (some ⟨w.heap.size, 0, none⟩) 0 0) z.length (bv z)) := by
      rw [HL.out]
      exact World.ownsRow_made w #[] 0 (Nat.le_refl _) (by decide) rfl
    have HB : Hid (Below w.heap.size w (w.alloc (.cells #[] 5))) := more (Below.refl _ _) _
    generalize (Value.slice (some ⟨w.heap.size, 0, none⟩) 0 0) = V at HO ⊢
    generalize w.alloc (.cells #[] 5) = w2 at HO HB ⊢
  case' some ad =>
    clear hz hC hlen
    go_enter Try.func4, Try.ntmps4
    go_wp2_with (at_builtin; refine wpList_append_own _ rfl _ _ 26 rfl w.heap.size 5 i0 (.int .u8 0) 1 1 Try.underlying26 hi hz0 hz1 hz2 rfl (by decide) _ _ _ rfl (World.ownsRow_made w #[] 0 (Nat.le_refl _) (by decide) rfl) ad len0 cap0 (bv z) rfl ?c0 ?c1 ?c2 ?c3 ?c4 ?c5 ?_)
    case c0 => rw [bv_len, HLEN.out]
    case c1 => exact (HZ.out.alloc _).news
    case c2 => exact bv_one _
    case c3 => unfold maxLen; omega
    case c4 => omega
    case c5 => simp
    intro V w2 hown' hgrow _
    have HO : Hid (w2.ownsRow w.heap.size 5 1 V z.length (bv z)) := by
      have h1 := hown'
      have h2 := HLEN.out
      subst h2
      first
        | exact h1
        | (simp at h1; exact h1)
    have HB : Hid (Below w.heap.size w w2) := (more (Below.refl _ _) _).grown hgrow (by simp) (fun k hk => by simp [Value.ownBlock] at hk; omega)
    clear hown' hgrow hreach
    go_wp2_with fail
  all_goals
    have hzl : z.length ≤ 140737488351232 := by have := HLEN.out; have := HRE.out; omega
    obtain ⟨a5, c5, rfl⟩ : ∃ a5 c5, V = .slice a5 z.length c5 := by
      rcases HO.out.2 with ⟨h1, h2⟩ | ⟨g, cap, cur, h1, _⟩
      · exact ⟨none, 0, by rw [h1, h2]⟩
      · exact ⟨_, _, h1⟩
    refine (take_row w2.heap.size _ z _ (HoldsB.ofRow HBs.out HO.out) hzl).mono ?_
    rintro r w3 ⟨I, v1, rfl, hI, hblk, hrow, hown, hbel⟩
    have hIl := hblk.lt
    go_wp2_with fail
    generalize hW : World.alloc w3 _ = W2
    have hsz : W2.heap.size = w3.heap.size + 1 := by rw [← hW]; simp
    obtain ⟨u, hT⟩ : ∃ u, HoldsB w w.heap.size u z ∧ Tur w.heap.size I w3.heap.size w2.heap.size z.length (.slice a5 z.length c5) v1 u z w z W2 :=
      ⟨_, HZ.out, by
        rw [← hW]
        have hn := (ownsRow_below HO.out hbel).alloc
        exact ⟨hn _, hrow.alloc _, (hblk.old _), Blk.new _ _, more (HB.out.trans (hbel.mono HB.out.size)) _⟩⟩
    have HT := Lib.hid hT
    have HI : Hid (w.heap.size ≤ w2.heap.size ∧ w2.heap.size ≤ I ∧ I < w3.heap.size) := ⟨HB.out.size, hI, hIl⟩
    have HM := Lib.hid hown
    have HG : Hid (∀ g n c, Value.slice a5 z.length c5 = .slice (some ⟨g, 0, none⟩) n c → g < w2.heap.size) := fun g n c e => (HO.out.lt g (by rw [e]; rfl)).2
    clear hW hI hblk hrow hown hbel hIl hT HO hsz
    generalize w3.heap.size = R at HI HT ⊢
    generalize w2.heap.size = B1 at HI HT HG ⊢
    go_loopw [21] (fun c wr => ∃ (i : Nat) (ys : List Int), i ≤ z.length ∧ c = .int .i64 i ∧ ys.length = z.length ∧ Tur w.heap.size I R B1 z.length (.slice a5 z.length c5) v1 u z w ys wr) (fun c _ => z.length - (intOf c).toNat)
    case atStart => exact ⟨0, z, by omega, rfl, rfl, HT.out.2⟩
    case round =>
      obtain ⟨i, ys, hi', rfl, hys, htur⟩ := hrel
      have HTU := Lib.hid htur
      by_cases hlt : i < z.length
      · obtain ⟨g, cap, hV, hb, hg⟩ := row_form htur.inp (by omega)
        have hgB := HG.out _ _ _ hV
        simp only [Value.slice.injEq] at hV
        obtain ⟨rfl, -, rfl⟩ := hV
        have hc : wr.cell? ⟨g, i, none⟩ = some (.int .u8 (ys.getD i 0)) := (htur.inp.cellAt i (by omega)).trans (bv_getD (by omega))
        have hfz := htur.inp.frozenAt i
        have HST := Lib.hid (htur.step hgB HI.out.2.1 HI.out.2.2 i)
        clear htur hb hgB
        generalize ys.getD i 0 = y at hc
        go_wp2_with fail
        exact ⟨⟨i + 1, ys.set i _, by omega, by go_num, by rw [List.length_set]; exact hys, HST.out _⟩, by simp [intOf]; omega⟩
      · have HBW : Hid (Below w.heap.size w wr) := htur.below
        have HI : Hid (w.heap.size ≤ I ∧ I < R ∧ w.heap.size ≤ wr.heap.size) := ⟨by have := HI.out; omega, HI.out.2.2, by have := htur.bi.lt; have := HI.out; omega⟩
        have HS : Hid (Bth I I R z z 0 0 0 wr wr) := Bth.start (InIs.ofRow htur.bi HBs.out htur.own HM.out) ⟨by have := HI.out; omega, ⟨u, (HT.out.1.frame htur.below.size fun k hk _ => htur.below.block k hk).mono HI.out.1, htur.br⟩, Nat.zero_le _⟩
        clear htur
        go_wp2_with fail
        go_loopw [33] (fun c wq => ∃ (i : Nat) (l : List Int) (e : Int) (at' : Nat), i ≤ len1 ∧ c = .int .i64 i ∧ Rel l e z at' ∧ Bth I I R z l e at' e wr wq) (fun c _ => len1 - (intOf c).toNat)
        case atStart => exact ⟨0, _, _, _, by omega, rfl, Rel.start z, HS.out⟩
        case round =>
          obtain ⟨i, l, e, at', hi, rfl, hrel, hbth⟩ := hrel
          have LR := Lib.hid hrel
          have HBT := Lib.hid hbth
          clear hrel hbth
          by_cases hlt : i < len1
          · obtain ⟨b, off, rfl, hbl, hc⟩ := HC.out (by omega)
            obtain ⟨hrange, kind, most, hitem⟩ := hc i hlt
            have HR3 : Hid (wr.rangeAt b (off + i * 21) (C i)) := HBT.out.range (range_below hrange HBW.out hbl) (by have := HI.out; omega) (by have := HI.out; omega) (by have := HI.out; omega)
            have HIT := Lib.hid hitem
            have HGB : Hid (((wr.alloc z45).setRow wr.heap.size (C i).toArray).heap[wr.heap.size]? = some (.cells (C i).toArray 45 (0, 0))) := (Blk.new wr z45).setRow _
            have LB := Lib.hid (HBT.out.below (Below.row (more (Below.refl _ wr) z45) (Nat.le_refl _) (C i).toArray))
            have H45 := Lib.hid (info45' HIT.out.len)
            have HL45 := Lib.hid (infoL45 HIT.out.len)
            clear hc hrange hitem hbl
            by_cases h60 : i < 60
            · have h60' : ¬ (60 : Int) ≤ i := by omega
              go_wp2_with (first
                | (refine wpList_load_mid rfl 45 (.tmp 36) rfl b (off + i * 21) rfl (C i) _ HR3.out Try.underlying45 rfl HL45.out ?_)
                | (refine wpList_store_row rfl 45 (.tmp 10) (.tmp 37) rfl wr.heap.size (C i).toArray rfl rfl 45 _ (Blk.new wr z45) H45.out (size45 HIT.out.len) (all45 HIT.out.one) ?_)
                | (refine wpList_load_row rfl 45 (.tmp 10) rfl wr.heap.size rfl 45 (C i).toArray (0, 0) _ HGB.out Try.underlying45 rfl H45.out ?_))
              refine (takes_any I I R z l e at' (C i).toArray kind most _ LB.out.i LB.out.r LR.out (by have := HI.out; omega) (by simpa using HIT.out.k) (by simpa using HIT.out.m) (by simp [HIT.out.len]) HIT.out.m0 HIT.out.m1).mono ?_
              rintro r w5 ⟨rfl, l2, e2, at2, hrel2, hb2⟩
              have HF : Hid (Rel l2 e2 z at2 ∧ Bth I I R z l2 e2 at2 e2 _ w5) := ⟨hrel2, Bth.trans LB.out hb2⟩
              clear hrel2 hb2
              go_wp2_with fail
              exact ⟨⟨i + 1, l2, e2, at2, by omega, by go_num, HF.out⟩, by simp [intOf]; omega⟩
            · have h60' : (60 : Int) ≤ i := by omega
              go_wp2_with (first
                | (refine wpList_load_mid rfl 45 (.tmp 36) rfl b (off + i * 21) rfl (C i) _ HR3.out Try.underlying45 rfl HL45.out ?_)
                | (refine wpList_store_row rfl 45 (.tmp 10) (.tmp 37) rfl wr.heap.size (C i).toArray rfl rfl 45 _ (Blk.new wr z45) H45.out (size45 HIT.out.len) (all45 HIT.out.one) ?_))
              refine (awake_any _).mono ?_
              rintro r q1 ⟨rfl, hb⟩
              have K1 := Lib.hid (LB.out.below hb)
              clear hb
              go_wp2_with fail
              refine (end_any I I l e _ K1.out.i).mono ?_
              rintro r q2 ⟨rfl, l', h2⟩
              have K2 := Lib.hid (K1.out.inn h2 (by have := HI.out; omega))
              have HER := Lib.hid (end_rel LR.out K1.out.i.none)
              clear h2
              go_wp2_with fail
              refine (rend_any I R z at' e _ ⟨K2.out.r.le, K2.out.r.is, K2.out.r.at_⟩).mono ?_
              rintro r q3 ⟨rfl, o, ho⟩
              have K3 := Lib.hid (K2.out.last ho HBW.out (by have := HI.out; omega) (by have := HI.out; omega) (by have := HI.out; omega))
              clear ho
              rw [HER.out]
              generalize (if 0 < rleft z at' e then (10 : Int) else e) = ee
              go_wp2_with fail
              go_ret
              exact ⟨rfl, K3.out⟩
          · have LB := HBT
            go_wp2_with fail
            refine (awake_any _).mono ?_
            rintro r q1 ⟨rfl, hb⟩
            have K1 := Lib.hid (LB.out.below hb)
            clear hb
            go_wp2_with fail
            refine (end_any I I l e _ K1.out.i).mono ?_
            rintro r q2 ⟨rfl, l', h2⟩
            have K2 := Lib.hid (K1.out.inn h2 (by have := HI.out; omega))
            have HER := Lib.hid (end_rel LR.out K1.out.i.none)
            clear h2
            go_wp2_with fail
            refine (rend_any I R z at' e _ ⟨K2.out.r.le, K2.out.r.is, K2.out.r.at_⟩).mono ?_
            rintro r q3 ⟨rfl, o, ho⟩
            have K3 := Lib.hid (K2.out.last ho HBW.out (by have := HI.out; omega) (by have := HI.out; omega) (by have := HI.out; omega))
            clear ho
            rw [HER.out]
            generalize (if 0 < rleft z at' e then (10 : Int) else e) = ee
            go_wp2_with fail
            go_ret
            exact ⟨rfl, K3.out⟩
end Go.Proofs.Ytgpjffchpppceaa
