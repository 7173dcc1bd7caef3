/-
  The law's helper laid.
-/
import Derived.Test.YtgpjffchpppceaaLaidM
namespace Go.Proofs.Ytgpjffchpppceaa
open Go.RowKit

/-- Two results: a slot, and an array in a cell. -/
theorem results_tmp_row {P : Program} {fn : Func} {p q : Tmp} {ty : TypeId} (h : fn.results = #[.tmp q, .cell p ty]) (tmps : Array Value) (w : World) (g : Nat) (t : TypeId) (cs : Array Value) (fr : Nat × Nat) (d : TypeDesc) (u : Value)
    (hp : tmps.getD p undef = .pointer (some ⟨g, 0, none⟩)) (hq : tmps.getD q undef = u) (hg : w.heap[g]? = some (.cells cs t fr))
    (hu : P.underlying ty = some d) (hd : (match d with | .struct _ | .array _ _ => true | _ => false) = true) (hi : (P.info? ty).map (·.size) = some cs.size) :
    (results fn tmps).run P w = .ok (.tuple #[u, .agg cs]) w := by
  have hp' : tmps[p]?.getD undef = .pointer (some ⟨g, 0, none⟩) := by simpa using hp
  have hq' : tmps[q]?.getD undef = u := by simpa using hq
  simp [results, h, hp', hq', asAddr, run_loadVar_row w g t ty cs fr d hg hu hd hi]
theorem HoldsB.ofRange {w : World} {M b off : Nat} {p : List Int} (hr : w.rangeAt b off (bv p)) (hb : b < M) (h2 : b < w.heap.size) (hB : Bytes p) (hl : p.length ≤ maxLen) : HoldsB w M (.slice (some ⟨b, off, none⟩) p.length p.length) p := by
  refine ⟨_, _, rfl, Nat.le_refl _, hl, (fun e => by cases e), (fun x hx _ => by cases hx; exact ⟨rfl, hb, h2⟩), (fun x i hx hi => ?_), hB⟩
  cases hx
  exact hr i _ (by rw [List.getElem?_map, List.getD_eq_getElem?_getD, List.getElem?_eq_getElem hi]; rfl)
theorem item_range {W w : World} {C : List Value} {d : It} {X : Nat} (h : ItemD W C d) (hb : Blk w X (.cells C.toArray 45)) : w.rangeAt X 2 (bv d.p) := by
  intro j u hu
  have e := hb.cell (2 + j)
  rw [e]
  have hj : j < (bv d.p).length := (List.getElem?_eq_some_iff.1 hu).1
  have h1 := h.eq
  rw [h1]
  generalize bv d.p = q at hu hj
  rw [show 2 + j = j + 1 + 1 by omega]
  simp only [List.getElem?_toArray, List.getElem?_cons_succ]
  rw [List.getElem?_append_left hj]
  exact hu
def LaidPost (w : World) (D : Nat → It) (len : Nat) (r : Ending) (w' : World) : Prop :=
  ∃ O K vm f vr lP lD, r = .returned (.tuple #[.pointer (some ⟨O, 0, none⟩), routV vm f]) ∧ w.heap.size < O ∧ O < K ∧ LaidS w O K D len vm f w' vr lP lD
theorem LaidS.last {w w0 : World} {O K R : Nat} {D : Nat → It} {i : Nat} {vm : Value} {f : Bool} {wr w' : World} {vr : Value} {lP lD : List Int} {o : Obj} (h : LaidS w0 O K D i vm f wr vr lP lD) (hb : Below w.heap.size w w0) (hR : w.heap.size ≤ R) (hO : R < O) (hK : O < K) (k : Turn R o wr w') : LaidS w O K D i vm f w' vr lP lD := by
  have hrow := h.out.row.lt
  exact ⟨⟨k.keep h.out.blk (by omega), h.out.row.kept k.grown (.inr fun e => by have := (hrow R e).1; omega), h.out.bytes⟩, k.keep h.mb (by omega), h.same, h.lenP, h.lenD,
    (h.ref.other k.size fun g hg hl => k.other g hl (by have := (h.apart g hg).1; omega)).mono k.size, fun g hg => ⟨(h.apart g hg).1, Nat.lt_of_lt_of_le (h.apart g hg).2.1 k.size, (h.apart g hg).2.2⟩, h.own, h.flag,
    (hb.trans (h.below.mono hb.size)).trans (k.below hR (by have := h.below.size; have := hb.size; omega))⟩
set_option maxRecDepth 100000 in
set_option maxHeartbeats 6400000 in
theorem laid_any (a : Option Addr) (len cap : Nat) (C : Nat → List Value) (D : Nat → It) (w : World) (h : IsFull w a len C) (h60 : len ≤ 60) (hD : ∀ i, i < len → ItemD w (C i) (D i) ∧ ItOk (D i)) :
    Calls Try.prog 10 #[.slice a len cap] w (LaidPost w D len) := by
  obtain ⟨hl, hC⟩ := h
  have HC := Lib.hid hC
  have HD := Lib.hid hD
  clear hC hD hl
  go_enter Try.func10, Try.ntmps10
  go_wp2_with fail
  obtain ⟨w0, hw0⟩ : ∃ w0, w0 = w.alloc (.cells #[.slice none 0 0, .bool false] 28) := ⟨_, rfl⟩
  have HB0 : Hid (Below w.heap.size w w0) := by rw [hw0]; exact more (Below.refl _ _) _
  have HR0 : Hid (Blk w0 w.heap.size (.cells #[.slice none 0 0, .bool false] 28)) := by rw [hw0]; exact Blk.new _ _
  have HZ0 : Hid (w0.heap.size = w.heap.size + 1) := by rw [hw0]; simp [Hid]
  rw [← hw0]
  clear hw0
  refine (lay_any w0).mono ?_
  rintro r w1 ⟨rfl, rfl⟩
  have HS := Lib.hid (LaidS.start (w := w0) (D := D))
  obtain ⟨w1, hw1⟩ : ∃ w1, w1 = w0.alloc (outObj (.slice none 0 0) false) := ⟨_, rfl⟩
  have HZ1 : Hid (w1.heap.size = w0.heap.size + 1) := by rw [hw1]; simp [Hid]
  rw [← hw1] at HS ⊢
  clear hw1
  go_wp2_with fail
  obtain ⟨w2, hw2⟩ : ∃ w2, w2 = w1.alloc (.cells #[.slice none 0 0, .bool false] 28) := ⟨_, rfl⟩
  rw [← hw2] at HS ⊢
  rw [HZ1.out]
  clear hw2
  have HOK : Hid (w0.heap.size ≤ w0.heap.size ∧ w0.heap.size < w0.heap.size + 1) := ⟨Nat.le_refl _, Nat.lt_succ_self _⟩
  generalize hOe : w0.heap.size = O at HS HOK ⊢
  have HOE := Lib.hid hOe
  clear hOe
  generalize O + 1 = K at HS HOK ⊢
  go_loopw [12] (fun c wr => ∃ (i : Nat) (vm : Value) (f : Bool) (vr : Value) (lP lD : List Int), i ≤ len ∧ c = .int .i64 i ∧ LaidS w0 O K D i vm f wr vr lP lD) (fun c _ => len - (intOf c).toNat)
  case atStart => exact ⟨0, _, _, _, _, _, by omega, rfl, HS.out⟩
  case round =>
    obtain ⟨i, vm, f, vr, lP, lD, hi', rfl, hst⟩ := hrel
    have HST := Lib.hid hst
    obtain ⟨am, nm, cm, rfl, -⟩ := hst.ref.slice
    clear hst HS
    by_cases hlt : i < len
    · obtain ⟨b, off, rfl, hbl, hc⟩ := HC.out (by omega)
      obtain ⟨hrange, -⟩ := hc i hlt
      obtain ⟨hitem, hok⟩ := HD.out i hlt
      have HIT := Lib.hid hitem
      have HIK := Lib.hid hok
      obtain ⟨e1, e2, e3, e4, e5, e6, e7⟩ := hitem.cells
      have HBW : Hid (Below w.heap.size w wr) := HB0.out.trans (HST.out.below.mono (by have := HZ0.out; omega))
      have HR := Lib.hid (range_below hrange HBW.out hbl)
      have H45 := Lib.hid (info45' e1)
      have HL45 := Lib.hid (infoL45 e1)
      have HSZ := Lib.hid (size45 e1)
      have HAL := Lib.hid (all45 e2)
      have HX : Hid (((wr.alloc z45).setRow wr.heap.size (C i).toArray) = wr.alloc (.cells (C i).toArray 45)) := World.setRow_alloc_new _ _ _ _
      have HBX : Hid (Below wr.heap.size wr (wr.alloc (.cells (C i).toArray 45))) := more (Below.refl _ _) _
      have HSX := Lib.hid (HST.out.keep HBX.out)
      have HG := Lib.hid (Blk.new wr (.cells (C i).toArray 45))
      have HE3 := Lib.hid (And.intro e3 (And.intro e4 (And.intro e5 e6)))
      clear hc hrange hitem hbl hok e1 e2 e3 e4 e5 e6 e7
      have hk := HG.out.cell 0
      have hn := HG.out.cell 1
      have hv3 := HG.out.cell 18
      have hv4 := HG.out.cell 19
      rw [show (C i).toArray[0]? = _ by simpa using HE3.out.1] at hk
      rw [show (C i).toArray[1]? = _ by simpa using HE3.out.2.1] at hn
      rw [show (C i).toArray[18]? = _ by simpa using HE3.out.2.2.1] at hv3
      rw [show (C i).toArray[19]? = _ by simpa using HE3.out.2.2.2] at hv4
      obtain ⟨kd, hkd⟩ : ∃ kd, kd = (D i).kind := ⟨_, rfl⟩
      rw [← hkd] at hk
      have HKD := Lib.hid hkd
      clear hkd
      by_cases h0 : kd = 0
      · subst h0
        go_wp2_with (first
            | (refine wpList_load_mid rfl 45 (.tmp 14) rfl b (off + i * 21) rfl (C i) _ HR.out Try.underlying45 rfl HL45.out ?_)
            | (refine wpList_store_row rfl 45 (.tmp 7) (.tmp 15) rfl wr.heap.size (C i).toArray rfl rfl 45 _ (Blk.new wr z45) H45.out HSZ.out HAL.out ?_)
            | (rw [HX.out]))
        refine (u8o_any O vr lP f (D i).num _ HSX.out.out HIK.out.2.2.2.2.1 HIK.out.2.2.2.2.2 (by have := HSX.out.lenP; omega)).mono ?_
        rintro r w2 ⟨rfl, v2, h2⟩
        have M2 := Lib.hid (HSX.out.mid (Nat.le_of_eq HOE.out) HOK.out.2 h2)
        have G2 := Lib.hid (h2.keep HG.out (by have := HST.out.out.blk.lt; omega) (fun e => by have := (HST.out.out.row.lt _ e).2; omega))
        have hn2 := G2.out.cell 1
        rw [show (C i).toArray[1]? = _ by simpa using HE3.out.2.1] at hn2
        obtain ⟨c0, c1, f0, f1⟩ := M2.out.mb.two
        clear h2 hk hn hv3 hv4
        go_wp2_with fail
        refine (rnum_any w2.heap.size (.slice am nm cm) lD f (D i).num 1 w2 M2.out.ref (Nat.le_refl _) HIK.out.2.2.2.2.1 HIK.out.2.2.2.2.2 (by omega) (by have := HSX.out.lenD; omega)).mono ?_
        rintro r w3 ⟨vm2, rfl, h3, h3', hb3⟩
        obtain ⟨a9, n9, c9, rfl, -⟩ := h3.slice
        have K3 := Lib.hid (M2.out.mb.keep hb3)
        have H3 := Lib.hid (And.intro h3 (And.intro h3' hb3))
        obtain ⟨e0, e1, g0, g1⟩ := K3.out.two
        have hbad : Hid (numF f (D i).num 1 = (f || bad (D i))) := by unfold Hid numF bad; rw [← HKD.out]; rfl
        have henc : Hid (enc (D i) = digs (D i).num 1) := by unfold Hid enc; rw [← HKD.out]; rfl
        clear h3 h3' hb3 c0 c1 f0 f1 hn2
        generalize hF : numF f (D i).num 1 = F at hbad H3 M2 ⊢
        have HF := Lib.hid hF
        clear hF
        go_wp2_with fail
        refine ⟨⟨i + 1, .slice a9 n9 c9, F, v2, _, _, by omega, by go_num, M2.out.done HST.out (Nat.le_of_eq HOE.out) HOK.out.2 H3.out.1 H3.out.2.1 H3.out.2.2 (((Turn.same K3.out).set 0 _).set 1 _) hbad.out (fun e => ?_) ?_ ?_⟩, by simp [intOf]; omega⟩
        · rw [henc.out]
          have hF0 : numF f (D i).num 1 = false := by rw [HF.out]; exact e
          exact ⟨(numL_ok hF0).1, (numL_ok hF0).2⟩
        · have := numL_len lP f (D i).num 1; omega
        · have := dnum_len lD (D i).num 1; omega
      by_cases h0 : kd = 1
      · subst h0
        go_wp2_with (first
            | (refine wpList_load_mid rfl 45 (.tmp 14) rfl b (off + i * 21) rfl (C i) _ HR.out Try.underlying45 rfl HL45.out ?_)
            | (refine wpList_store_row rfl 45 (.tmp 7) (.tmp 15) rfl wr.heap.size (C i).toArray rfl rfl 45 _ (Blk.new wr z45) H45.out HSZ.out HAL.out ?_)
            | (rw [HX.out]))
        refine (u16o_any O vr lP f (D i).num _ HSX.out.out HIK.out.2.2.2.2.1 HIK.out.2.2.2.2.2 (by have := HSX.out.lenP; omega)).mono ?_
        rintro r w2 ⟨rfl, v2, h2⟩
        have M2 := Lib.hid (HSX.out.mid (Nat.le_of_eq HOE.out) HOK.out.2 h2)
        have G2 := Lib.hid (h2.keep HG.out (by have := HST.out.out.blk.lt; omega) (fun e => by have := (HST.out.out.row.lt _ e).2; omega))
        have hn2 := G2.out.cell 1
        rw [show (C i).toArray[1]? = _ by simpa using HE3.out.2.1] at hn2
        obtain ⟨c0, c1, f0, f1⟩ := M2.out.mb.two
        clear h2 hk hn hv3 hv4
        go_wp2_with fail
        refine (rnum_any w2.heap.size (.slice am nm cm) lD f (D i).num 2 w2 M2.out.ref (Nat.le_refl _) HIK.out.2.2.2.2.1 HIK.out.2.2.2.2.2 (by omega) (by have := HSX.out.lenD; omega)).mono ?_
        rintro r w3 ⟨vm2, rfl, h3, h3', hb3⟩
        obtain ⟨a9, n9, c9, rfl, -⟩ := h3.slice
        have K3 := Lib.hid (M2.out.mb.keep hb3)
        have H3 := Lib.hid (And.intro h3 (And.intro h3' hb3))
        obtain ⟨e0, e1, g0, g1⟩ := K3.out.two
        have hbad : Hid (numF f (D i).num 2 = (f || bad (D i))) := by unfold Hid numF bad; rw [← HKD.out]; rfl
        have henc : Hid (enc (D i) = digs (D i).num 2) := by unfold Hid enc; rw [← HKD.out]; rfl
        clear h3 h3' hb3 c0 c1 f0 f1 hn2
        generalize hF : numF f (D i).num 2 = F at hbad H3 M2 ⊢
        have HF := Lib.hid hF
        clear hF
        go_wp2_with fail
        refine ⟨⟨i + 1, .slice a9 n9 c9, F, v2, _, _, by omega, by go_num, M2.out.done HST.out (Nat.le_of_eq HOE.out) HOK.out.2 H3.out.1 H3.out.2.1 H3.out.2.2 (((Turn.same K3.out).set 0 _).set 1 _) hbad.out (fun e => ?_) ?_ ?_⟩, by simp [intOf]; omega⟩
        · rw [henc.out]
          have hF0 : numF f (D i).num 2 = false := by rw [HF.out]; exact e
          exact ⟨(numL_ok hF0).1, (numL_ok hF0).2⟩
        · have := numL_len lP f (D i).num 2; omega
        · have := dnum_len lD (D i).num 2; omega
      by_cases h0 : kd = 2
      · subst h0
        go_wp2_with (first
            | (refine wpList_load_mid rfl 45 (.tmp 14) rfl b (off + i * 21) rfl (C i) _ HR.out Try.underlying45 rfl HL45.out ?_)
            | (refine wpList_store_row rfl 45 (.tmp 7) (.tmp 15) rfl wr.heap.size (C i).toArray rfl rfl 45 _ (Blk.new wr z45) H45.out HSZ.out HAL.out ?_)
            | (rw [HX.out]))
        refine (u32o_any O vr lP f (D i).num _ HSX.out.out HIK.out.2.2.2.2.1 HIK.out.2.2.2.2.2 (by have := HSX.out.lenP; omega)).mono ?_
        rintro r w2 ⟨rfl, v2, h2⟩
        have M2 := Lib.hid (HSX.out.mid (Nat.le_of_eq HOE.out) HOK.out.2 h2)
        have G2 := Lib.hid (h2.keep HG.out (by have := HST.out.out.blk.lt; omega) (fun e => by have := (HST.out.out.row.lt _ e).2; omega))
        have hn2 := G2.out.cell 1
        rw [show (C i).toArray[1]? = _ by simpa using HE3.out.2.1] at hn2
        obtain ⟨c0, c1, f0, f1⟩ := M2.out.mb.two
        clear h2 hk hn hv3 hv4
        go_wp2_with fail
        refine (rnum_any w2.heap.size (.slice am nm cm) lD f (D i).num 4 w2 M2.out.ref (Nat.le_refl _) HIK.out.2.2.2.2.1 HIK.out.2.2.2.2.2 (by omega) (by have := HSX.out.lenD; omega)).mono ?_
        rintro r w3 ⟨vm2, rfl, h3, h3', hb3⟩
        obtain ⟨a9, n9, c9, rfl, -⟩ := h3.slice
        have K3 := Lib.hid (M2.out.mb.keep hb3)
        have H3 := Lib.hid (And.intro h3 (And.intro h3' hb3))
        obtain ⟨e0, e1, g0, g1⟩ := K3.out.two
        have hbad : Hid (numF f (D i).num 4 = (f || bad (D i))) := by unfold Hid numF bad; rw [← HKD.out]; rfl
        have henc : Hid (enc (D i) = digs (D i).num 4) := by unfold Hid enc; rw [← HKD.out]; rfl
        clear h3 h3' hb3 c0 c1 f0 f1 hn2
        generalize hF : numF f (D i).num 4 = F at hbad H3 M2 ⊢
        have HF := Lib.hid hF
        clear hF
        go_wp2_with fail
        refine ⟨⟨i + 1, .slice a9 n9 c9, F, v2, _, _, by omega, by go_num, M2.out.done HST.out (Nat.le_of_eq HOE.out) HOK.out.2 H3.out.1 H3.out.2.1 H3.out.2.2 (((Turn.same K3.out).set 0 _).set 1 _) hbad.out (fun e => ?_) ?_ ?_⟩, by simp [intOf]; omega⟩
        · rw [henc.out]
          have hF0 : numF f (D i).num 4 = false := by rw [HF.out]; exact e
          exact ⟨(numL_ok hF0).1, (numL_ok hF0).2⟩
        · have := numL_len lP f (D i).num 4; omega
        · have := dnum_len lD (D i).num 4; omega
      by_cases h0 : kd = 3
      · subst h0
        go_wp2_with (first
            | (refine wpList_load_mid rfl 45 (.tmp 14) rfl b (off + i * 21) rfl (C i) _ HR.out Try.underlying45 rfl HL45.out ?_)
            | (refine wpList_store_row rfl 45 (.tmp 7) (.tmp 15) rfl wr.heap.size (C i).toArray rfl rfl 45 _ (Blk.new wr z45) H45.out HSZ.out HAL.out ?_)
            | (rw [HX.out]))
        refine (u64o_any O vr lP f (D i).num _ HSX.out.out HIK.out.2.2.2.2.1 HIK.out.2.2.2.2.2 (by have := HSX.out.lenP; omega)).mono ?_
        rintro r w2 ⟨rfl, v2, h2⟩
        have M2 := Lib.hid (HSX.out.mid (Nat.le_of_eq HOE.out) HOK.out.2 h2)
        have G2 := Lib.hid (h2.keep HG.out (by have := HST.out.out.blk.lt; omega) (fun e => by have := (HST.out.out.row.lt _ e).2; omega))
        have hn2 := G2.out.cell 1
        rw [show (C i).toArray[1]? = _ by simpa using HE3.out.2.1] at hn2
        obtain ⟨c0, c1, f0, f1⟩ := M2.out.mb.two
        clear h2 hk hn hv3 hv4
        go_wp2_with fail
        refine (rnum_any w2.heap.size (.slice am nm cm) lD f (D i).num 8 w2 M2.out.ref (Nat.le_refl _) HIK.out.2.2.2.2.1 HIK.out.2.2.2.2.2 (by omega) (by have := HSX.out.lenD; omega)).mono ?_
        rintro r w3 ⟨vm2, rfl, h3, h3', hb3⟩
        obtain ⟨a9, n9, c9, rfl, -⟩ := h3.slice
        have K3 := Lib.hid (M2.out.mb.keep hb3)
        have H3 := Lib.hid (And.intro h3 (And.intro h3' hb3))
        obtain ⟨e0, e1, g0, g1⟩ := K3.out.two
        have hbad : Hid (numF f (D i).num 8 = (f || bad (D i))) := by unfold Hid numF bad; rw [← HKD.out]; rfl
        have henc : Hid (enc (D i) = digs (D i).num 8) := by unfold Hid enc; rw [← HKD.out]; rfl
        clear h3 h3' hb3 c0 c1 f0 f1 hn2
        generalize hF : numF f (D i).num 8 = F at hbad H3 M2 ⊢
        have HF := Lib.hid hF
        clear hF
        go_wp2_with fail
        refine ⟨⟨i + 1, .slice a9 n9 c9, F, v2, _, _, by omega, by go_num, M2.out.done HST.out (Nat.le_of_eq HOE.out) HOK.out.2 H3.out.1 H3.out.2.1 H3.out.2.2 (((Turn.same K3.out).set 0 _).set 1 _) hbad.out (fun e => ?_) ?_ ?_⟩, by simp [intOf]; omega⟩
        · rw [henc.out]
          have hF0 : numF f (D i).num 8 = false := by rw [HF.out]; exact e
          exact ⟨(numL_ok hF0).1, (numL_ok hF0).2⟩
        · have := numL_len lP f (D i).num 8; omega
        · have := dnum_len lD (D i).num 8; omega
      by_cases h0 : kd = 4
      · subst h0
        have hrg := Lib.hid (item_range HIT.out HG.out)
        have HPP := Lib.hid (And.intro HIT.out.len HIT.out.bytes)
        have henc : Hid (enc (D i) = (D i).p) := by unfold Hid enc; rw [← HKD.out]; rfl
        have hbad : Hid (f = (f || bad (D i))) := by unfold Hid bad; rw [← HKD.out]; simp
        have hG2 : Hid (∀ w2, Blk w2 wr.heap.size (.cells (C i).toArray 45) → HoldsB w2 w2.heap.size (.slice (some ⟨wr.heap.size, 2, none⟩) 16 16) (D i).p) := fun w2 g => by
          have k := HoldsB.ofRange (M := w2.heap.size) (item_range HIT.out g) g.lt g.lt HPP.out.2 (by rw [HPP.out.1]; unfold maxLen; omega)
          rw [HPP.out.1] at k
          exact k
        generalize (D i).p = p at hrg HPP henc hG2
        have HC42 := Lib.hid (cellsL42 HPP.out.1)
        go_wp2_with (first
            | (refine wpList_load_mid rfl 45 (.tmp 14) rfl b (off + i * 21) rfl (C i) _ HR.out Try.underlying45 rfl HL45.out ?_)
            | (refine wpList_store_row rfl 45 (.tmp 7) (.tmp 15) rfl wr.heap.size (C i).toArray rfl rfl 45 _ (Blk.new wr z45) H45.out HSZ.out HAL.out ?_)
            | (rw [HX.out])
            | (refine wpList_load_mid rfl 42 (.tmp 61) rfl wr.heap.size 2 rfl (bv p) _ hrg.out Try.underlying42 rfl HC42.out ?_))
        refine (sumo_any O vr lP p f _ HSX.out.out HPP.out.2 HPP.out.1 (by have := HSX.out.lenP; omega)).mono ?_
        rintro r w2 ⟨rfl, v2, h2⟩
        have M2 := Lib.hid (HSX.out.mid (Nat.le_of_eq HOE.out) HOK.out.2 h2)
        have G2 := Lib.hid (h2.keep HG.out (by have := HST.out.out.blk.lt; omega) (fun e => by have := (HST.out.out.row.lt _ e).2; omega))
        have HP2 := Lib.hid (hG2.out _ G2.out)
        obtain ⟨c0, c1, f0, f1⟩ := M2.out.mb.two
        have HLN : Hid (lD.length + p.length ≤ 1099511627776) := by have := HSX.out.lenD; have := HPP.out.1; show _ ≤ _; omega
        clear h2 hk hn hv3 hv4
        go_wp2_with fail
        go_region_with (go_at_call 38; refine (rraw_out w2.heap.size (.slice am nm cm) _ lD p f _ (HoldsB.drew M2.out.ref) (HoldsB.drew HP2.out) HLN.out).mono ?_; rintro r w3 ⟨vm2, rfl, h3, h3', hb3⟩; have HB3 : Hid (Below w2.heap.size w2 w3) := ⟨hb3.os, hb3.tape, hb3.output, hb3.size, hb3.block⟩; have H3 := Lib.hid h3; have H3' : Hid (vm2 = .slice am nm cm ∨ w3.ownsRow w2.heap.size 5 1 vm2 (lD ++ p).length (bv (lD ++ p))) := h3'; have K3 := Lib.hid (M2.out.mb.keep HB3.out); obtain ⟨a9, n9, c9, rfl, -⟩ := h3.slice; obtain ⟨j0, j1, j2, j3⟩ := K3.out.two; clear h3 h3' hb3 c0 c1 f0 f1)
        go_wp2_with fail
        refine ⟨⟨i + 1, .slice a9 n9 c9, f, v2, _, _, by omega, by go_num, M2.out.done HST.out (Nat.le_of_eq HOE.out) HOK.out.2 H3.out H3'.out HB3.out (((Turn.same K3.out).set 0 _).set 1 _) hbad.out (fun e => ?_) ?_ ?_⟩, by simp [intOf]; omega⟩
        · rw [henc.out, e]
          exact ⟨rfl, rfl⟩
        · have := putL_len lP p f; have := HPP.out.1; omega
        · rw [List.length_append]; have := HPP.out.1; omega
      by_cases h0 : kd = 5
      · subst h0
        have henc : Hid (enc (D i) = digs (D i).n3 1 ++ (D i).S) := by unfold Hid enc; rw [← HKD.out]; rfl
        have hbad : Hid (numF f (D i).n3 1 = (f || bad (D i))) := by unfold Hid numF bad; rw [← HKD.out]; rfl
        have HSI := Lib.hid HIT.out.s
        have hs : ∃ a c, (D i).v3 = .slice a (D i).n3 c := by obtain ⟨a, c, h1, _⟩ := HIT.out.s; exact ⟨a, c, h1⟩
        obtain ⟨a3, c3, hv⟩ := hs
        rw [hv] at hv3
        have HVV : Hid (some (D i).v3 = some (.slice a3 (D i).n3 c3)) := by rw [hv]; rfl
        rw [hv] at HSI
        clear hv
        have HSB : Hid (Bytes (D i).S) := by obtain ⟨_, _, _, _, _, hb, _⟩ := HIT.out.s; exact hb
        have HN3 := Lib.hid (And.intro HIK.out.2.1 HIK.out.2.2.1)
        generalize (D i).n3 = n3 at *
        generalize (D i).S = S at *
        go_wp2_with (first
            | (refine wpList_load_mid rfl 45 (.tmp 14) rfl b (off + i * 21) rfl (C i) _ HR.out Try.underlying45 rfl HL45.out ?_)
            | (refine wpList_store_row rfl 45 (.tmp 7) (.tmp 15) rfl wr.heap.size (C i).toArray rfl rfl 45 _ (Blk.new wr z45) H45.out HSZ.out HAL.out ?_)
            | (rw [HX.out]))
        refine (to_any (.slice a3 n3 c3) n3 S _ (HSI.out.keep (HBW.out.trans (HBX.out.mono HBW.out.size))) (by have := HN3.out; omega)).mono ?_
        rintro r w1 ⟨vs, rfl, hs1, hb1⟩
        have HB1 := Lib.hid hb1
        have HS1 := Lib.hid (HSX.out.keep hb1)
        have HGA := Lib.hid (HG.out.keep hb1)
        have HR1 := Lib.hid hs1
        clear hs1 hb1 hk hn hv3 hv4
        go_wp2_with fail
        refine (sumso_any O vr vs lP S n3 f w1 HS1.out.out (HoldsS.ofRow HSB.out (by have := HN3.out; unfold maxLen; omega) HN3.out.1 HR1.out) (by have := HN3.out; omega) (fun g hg => ?_) (by have := HSX.out.lenP; omega)).mono ?_
        · have k1 := (HR1.out.lt g hg).1
          have k2 := HSX.out.out.blk.lt
          exact ⟨by omega, fun e => by have := (HSX.out.out.row.lt g e).2; omega⟩
        rintro r w2 ⟨rfl, v2, h2⟩
        have M2 := Lib.hid (HS1.out.mid (Nat.le_of_eq HOE.out) HOK.out.2 h2)
        have G2 : Hid (Blk w2 wr.heap.size (.cells (C i).toArray 45)) := h2.keep HGA.out (by have := HST.out.out.blk.lt; omega) (fun e => by have := (HST.out.out.row.lt wr.heap.size e).2; omega)
        have hn2 := G2.out.cell 18
        rw [show (C i).toArray[18]? = _ by simpa using HE3.out.2.2.1, HVV.out] at hn2
        obtain ⟨c0, c1, f0, f1⟩ := M2.out.mb.two
        have HS2 := Lib.hid (HSI.out.keep (HB0.out.trans (M2.out.below.mono HB0.out.size)))
        clear h2
        go_wp2_with fail
        refine (rosums_any w2.heap.size (.slice am nm cm) (.slice a3 n3 c3) lD S n3 f w2 M2.out.ref HS2.out (by have := HN3.out; omega) (Nat.le_refl _) (by have := HSX.out.lenD; omega)).mono ?_
        rintro r w3 ⟨vm2, rfl, h3, h3', hb3⟩
        obtain ⟨a9, n9, c9, rfl, -⟩ := h3.slice
        have K3 := Lib.hid (M2.out.mb.keep hb3)
        have H3 := Lib.hid (And.intro h3 (And.intro h3' hb3))
        obtain ⟨e0, e1, g0, g1⟩ := K3.out.two
        clear h3 h3' hb3 c0 c1 f0 f1 hn2
        have hsF : Hid (sumsF' n3 f = numF f n3 1) := rfl
        rw [hsF.out] at M2
        generalize hF : numF f n3 1 = F at hbad H3 M2 ⊢
        have HF := Lib.hid hF
        clear hF
        go_wp2_with fail
        refine ⟨⟨i + 1, .slice a9 n9 c9, F, v2, _, _, by omega, by go_num, M2.out.done HST.out (Nat.le_of_eq HOE.out) HOK.out.2 H3.out.1 H3.out.2.1 H3.out.2.2 (((Turn.same K3.out).set 0 _).set 1 _) hbad.out (fun e => ?_) ?_ ?_⟩, by simp [intOf]; omega⟩
        · have hF0 : numF f n3 1 = false := by rw [HF.out]; exact e
          rw [henc.out]
          unfold sumsL' rsumsL
          rw [(numL_ok hF0).1, (numL_ok hF0).2, hF0]
          refine ⟨?_, by rw [List.append_assoc]⟩
          show lP ++ digs n3 1 ++ S = _
          rw [List.append_assoc]
        · have h1 := putL_len (numL lP f n3 1) S (numF f n3 1)
          have h2 := numL_len lP f n3 1
          have h3 := HN3.out
          unfold sumsL'
          omega
        · have h2 := dnum_len lD n3 1
          have h3 := HN3.out
          unfold rsumsL
          rw [List.length_append]
          omega
      by_cases h0 : kd = 6
      · subst h0
        have henc : Hid (enc (D i) = digs (D i).B.length 2 ++ (D i).B) := by unfold Hid enc; rw [← HKD.out]; rfl
        have hbad : Hid ((f || decide (4096 < (D i).B.length)) = (f || bad (D i))) := by unfold Hid bad; rw [← HKD.out]; rfl
        have HBI := Lib.hid HIT.out.b
        have hb4 : ∃ a c, (D i).v4 = .slice a (D i).B.length c := by obtain ⟨a, n, c, h1, h2⟩ := HIT.out.b.slice; exact ⟨a, c, by rw [h1, h2]⟩
        obtain ⟨a4, c4, hv⟩ := hb4
        have HB5 := Lib.hid HIK.out.2.2.2.1
        generalize (D i).B = Bb at *
        obtain ⟨n4, hn4⟩ : ∃ n4, n4 = Bb.length := ⟨_, rfl⟩
        rw [← hn4] at hv
        rw [hv] at hv4
        have HVV : Hid (some (D i).v4 = some (.slice a4 n4 c4)) := by rw [hv]; rfl
        rw [hv] at HBI
        clear hv hn4
        go_wp2_with (first
            | (refine wpList_load_mid rfl 45 (.tmp 14) rfl b (off + i * 21) rfl (C i) _ HR.out Try.underlying45 rfl HL45.out ?_)
            | (refine wpList_store_row rfl 45 (.tmp 7) (.tmp 15) rfl wr.heap.size (C i).toArray rfl rfl 45 _ (Blk.new wr z45) H45.out HSZ.out HAL.out ?_)
            | (rw [HX.out]))
        refine (blobo_any O w.heap.size vr (.slice a4 n4 c4) lP Bb f _ HSX.out.out (HBI.out.keep (HBW.out.trans (HBX.out.mono HBW.out.size))) (by have := HZ0.out; have := HOE.out; omega) (by have := HSX.out.lenP; omega)).mono ?_
        rintro r w2 ⟨rfl, v2, h2⟩
        have M2 := Lib.hid (HSX.out.mid (Nat.le_of_eq HOE.out) HOK.out.2 h2)
        have G2 : Hid (Blk w2 wr.heap.size (.cells (C i).toArray 45)) := h2.keep HG.out (by have := HST.out.out.blk.lt; omega) (fun e => by have := (HST.out.out.row.lt wr.heap.size e).2; omega)
        have hn2 := G2.out.cell 19
        rw [show (C i).toArray[19]? = _ by simpa using HE3.out.2.2.2, HVV.out] at hn2
        obtain ⟨c0, c1, f0, f1⟩ := M2.out.mb.two
        have HS2 := Lib.hid ((HBI.out.keep (HB0.out.trans (M2.out.below.mono HB0.out.size))).mono (show w.heap.size ≤ w2.heap.size by have := M2.out.size; have := HBW.out.size; simp at *; omega))
        clear h2 hk hn hv3 hv4
        go_wp2_with fail
        refine (roblob_any w2.heap.size (.slice am nm cm) (.slice a4 n4 c4) lD Bb f w2 M2.out.ref HS2.out (Nat.le_refl _) (by have := HSX.out.lenD; omega)).mono ?_
        rintro r w3 ⟨vm2, rfl, h3, h3', hb3⟩
        obtain ⟨a9, n9, c9, rfl, -⟩ := h3.slice
        have K3 := Lib.hid (M2.out.mb.keep hb3)
        have H3 := Lib.hid (And.intro h3 (And.intro h3' hb3))
        obtain ⟨e0, e1, g0, g1⟩ := K3.out.two
        clear h3 h3' hb3 c0 c1 f0 f1 hn2
        have hsF : Hid (blobF' Bb f = (f || decide (4096 < Bb.length))) := rfl
        rw [hsF.out] at M2
        generalize hF : (f || decide (4096 < Bb.length)) = F at hbad H3 M2 ⊢
        have HF := Lib.hid hF
        clear hF
        go_wp2_with fail
        refine ⟨⟨i + 1, .slice a9 n9 c9, F, v2, _, _, by omega, by go_num, M2.out.done HST.out (Nat.le_of_eq HOE.out) HOK.out.2 H3.out.1 H3.out.2.1 H3.out.2.2 (((Turn.same K3.out).set 0 _).set 1 _) hbad.out (fun e => ?_) ?_ ?_⟩, by simp [intOf]; omega⟩
        · have hF0 := HF.out.trans e
          simp only [Bool.or_eq_false_iff, decide_eq_false_iff_not] at hF0
          rw [henc.out]
          unfold blobL'
          rw [if_neg hF0.2, if_neg hF0.2, hF0.1, List.append_assoc, List.append_assoc]
          exact ⟨by rfl, rfl⟩
        · have h3 := HB5.out
          unfold blobL'
          split
          · simp
          · split
            · omega
            · rw [List.length_append, List.length_append, digs_len]; omega
        · have h3 := HB5.out
          split
          · omega
          · rw [List.length_append, List.length_append, digs_len]; omega
      have hno : Hid (enc (D i) = [] ∧ bad (D i) = false) := by
        unfold Hid enc bad
        rw [← HKD.out]
        simp only [*, if_false]
        first | trivial | exact ⟨rfl, rfl⟩ | exact ⟨trivial, rfl⟩ | exact ⟨trivial, trivial⟩
      go_wp2_with (first
            | (refine wpList_load_mid rfl 45 (.tmp 14) rfl b (off + i * 21) rfl (C i) _ HR.out Try.underlying45 rfl HL45.out ?_)
            | (refine wpList_store_row rfl 45 (.tmp 7) (.tmp 15) rfl wr.heap.size (C i).toArray rfl rfl 45 _ (Blk.new wr z45) H45.out HSZ.out HAL.out ?_)
            | (rw [HX.out]))
      have hs := HSX.out
      refine ⟨⟨i + 1, .slice am nm cm, f, vr, lP, lD, by omega, by go_num, ⟨hs.out, hs.mb, fun e => ?_, by have := hs.lenP; omega, by have := hs.lenD; omega, hs.ref, hs.apart, hs.own, by rw [hs.flag]; show _ = (badU D i || bad (D i)); rw [hno.out.2, Bool.or_false], hs.below⟩⟩, by simp [intOf]; omega⟩
      show lP = encU D i ++ enc (D i) ∧ lD = encU D i ++ enc (D i)
      rw [hno.out.1, List.append_nil]
      exact hs.same e
    · obtain rfl : i = len := by omega
      have HK0 := Lib.hid HST.out.mb
      have HR1 := Lib.hid ((HR0.out.upto HST.out.below (by have := HZ0.out; omega)))
      obtain ⟨c0, c1, f0, f1⟩ := HK0.out.two
      obtain ⟨d0, d1, g0, g1⟩ := HR1.out.two
      go_wp2_with fail
      go_region
      go_wp2_with fail
      have hT := ((Turn.same HR1.out).set 0 (.slice am nm cm)).set 1 (.bool f)
      refine bodyPost_ret (v := .tuple #[.pointer (some ⟨O, 0, none⟩), routV (.slice am nm cm) f]) (results_tmp_row Try.results10 _ _ w.heap.size 28 #[.slice am nm cm, .bool f] (0, 0) _ _ rfl rfl hT.blk Try.underlying28 rfl info28) rfl ?_
      exact ⟨O, K, .slice am nm cm, f, vr, lP, lD, rfl, by have := HOE.out; have := HZ0.out; omega, HOK.out.2, HST.out.last HB0.out (Nat.le_refl _) (by have := HOE.out; have := HZ0.out; omega) HOK.out.2 hT.drew⟩
end Go.Proofs.Ytgpjffchpppceaa
