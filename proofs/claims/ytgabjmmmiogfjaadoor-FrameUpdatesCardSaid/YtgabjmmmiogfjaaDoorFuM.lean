/-
  frame.GetUpdate.
-/
import Derived.Test.YtgabjmmmiogfjaaDoorFuL
namespace Go.Proofs.YtgabjmmmiogfjaaDoor
open Go.RowKit

theorem uend_is {l B : List Int} {e : Int} {a : Nat} (hr : Rel l e B a) : endE l e = if 0 < rleft B a e then 10 else e := by
  unfold endE
  rw [hr.left]
  by_cases h : 0 < rleft B a e
  · rw [if_pos h, if_pos h]
    have : e = 0 := by
      false_or_by_contra
      rename_i hne
      unfold rleft at h
      rw [if_neg hne] at h
      omega
    rw [this]
    rfl
  · rw [if_neg h, if_neg h]
theorem results_row_tmpU {P : Program} {fn : Func} {p q : Tmp} {ty : TypeId} (h : fn.results = #[.cell p ty, .tmp q]) (tmps : Array Value) (w : World) (g : Nat) (t : TypeId) (cs : Array Value) (fr : Nat × Nat) (d : TypeDesc) (u : Value)
    (hp : tmps.getD p undef = .pointer (some ⟨g, 0, none⟩)) (hq : tmps.getD q undef = u) (hg : w.heap[g]? = some (.cells cs t fr))
    (hu : P.underlying ty = some d) (hd : (match d with | .struct _ | .array _ _ => true | _ => false) = true) (hi : (P.info? ty).map (·.size) = some cs.size) :
    (results fn tmps).run P w = .ok (.tuple #[.agg cs, u]) w := by
  have hp' : tmps[p]?.getD undef = .pointer (some ⟨g, 0, none⟩) := by simpa using hp
  have hq' : tmps[q]?.getD undef = u := by simpa using hq
  simp [results, h, hp', hq', asAddr, run_loadVar_row w g t ty cs fr d hg hu hd hi]
set_option maxHeartbeats 1600000 in
theorem umany_any (I : Nat) (l B : List Int) (at' : Nat) (e : Int) (w : World) (h : InIs w I I l e) (hr : Rel l e B at') (hb : Bytes B) :
    Calls Tryd.prog 62 #[.pointer (some ⟨I, 0, none⟩)] w fun r w' => r = .returned (.int .i64 (if 8 < numOf (rawP B at' e 1) then 0 else numOf (rawP B at' e 1))) ∧
      ∃ l', InStep I I l' (if 8 < numOf (rawP B at' e 1) then failE (rawE B at' e 1) 8 else rawE B at' e 1) w w' ∧ Rel l' (if 8 < numOf (rawP B at' e 1) then failE (rawE B at' e 1) 8 else rawE B at' e 1) B (rawA B at' e 1) := by
  have H := Kp.mk h
  have R := Kp.mk hr
  have hn := num1 hb at' e
  obtain ⟨n, hne⟩ : ∃ n, n = numOf (rawP B at' e 1) := ⟨_, rfl⟩
  rw [← hne] at hn ⊢
  have HNE := Kp.mk hne
  have HN := Kp.mk hn
  have hw : IntKind.i64.wrap n = n := IntWalk.i64_in _ (by omega)
  clear h hr hb hne hn
  by_cases hc : 8 < n
  · simp only [if_pos hc]
    go_enter Tryd.func62, Tryd.ntmps62
    go_wp2_with fail
    refine (u8_any I I l e _ H.out).mono ?_
    rintro r w1 ⟨rfl, s1⟩
    obtain ⟨q1, q2, q3⟩ := R.out.next 1
    rw [q1, ← HNE.out]
    rw [q2] at s1
    have S1 := Kp.mk s1
    have R1 := Kp.mk q3
    clear s1 q1 q2 q3
    go_wp2_with fail
    refine (fail_any I I _ _ 8 w1 S1.out.is).mono ?_
    rintro r w2 ⟨rfl, s2⟩
    have S2 := Kp.mk (S1.out.trans s2)
    have R2 := Kp.mk (R1.out.fail 8)
    clear s2
    go_wp2_with fail
    go_ret
    exact ⟨rfl, _, S2.out, R2.out⟩
  · simp only [if_neg hc]
    go_enter Tryd.func62, Tryd.ntmps62
    go_wp2_with fail
    refine (u8_any I I l e _ H.out).mono ?_
    rintro r w1 ⟨rfl, s1⟩
    obtain ⟨q1, q2, q3⟩ := R.out.next 1
    rw [q1, ← HNE.out]
    rw [q2] at s1
    have S1 := Kp.mk s1
    have R1 := Kp.mk q3
    clear s1 q1 q2 q3
    go_wp2_with fail
    go_ret
    exact ⟨rfl, _, S1.out, R1.out⟩
theorem info57s : (Tryd.prog.info? 57).map (·.size) = some 2 := by kernel_rfl
theorem u_one (b : Bool) (a : Option Addr) (m c : Nat) : (#[Value.bool b, .slice a m c] : Array Value).all (·.oneCell') = true := by simp [Value.oneCell']
theorem info115' : (Tryd.prog.info? 115).map (fun i => (i.zero, i.size, i.bytes)) = some (some (.agg (ec x0).toArray), 22, 88) := by kernel_rfl
theorem build55e {x : EV} (h : x.lf.length = 16) (w : World) : (Instr.buildSlice 55 1 #[(0, ecV x)]).run Tryd.prog w = .ok (.slice (some ⟨w.heap.size, 0, none⟩) 1 1) (w.alloc (.cells (ec x).toArray 115)) := by
  obtain ⟨d, e, s, m, lf, wa, wn, wc, pa, pn, pc⟩ := x
  obtain ⟨y0, y1, y2, y3, y4, y5, y6, y7, y8, y9, y10, y11, y12, y13, y14, y15, rfl⟩ := list16 h
  kernel_rfl
/-- The j-th entry is what stands there. -/
def uE (B : List Int) (j : Nat) (z : E3) : Prop := (z.1.d = nD B (uT B j).1 ∧ z.1.e = nE B (uT B j).1 ∧ z.1.s = nS B (uT B j).1 ∧ z.1.m = nM B (uT B j).1 ∧ z.1.lf = nL B (uT B j).1) ∧ z.2.1 = nW B (uT B j).1 ∧ z.2.2 = nP B (uT B j).1
def UGood (B : List Int) (n : Nat) (xs : List E3) : Prop := xs.length = n ∧ ∀ j z, xs[j]? = some z → uE B j z
theorem UGood.app {B : List Int} {n : Nat} {xs : List E3} {z : E3} (h : UGood B n xs) (hz : uE B n z) : UGood B (n + 1) (xs ++ [z]) := by
  refine ⟨by rw [List.length_append, h.1]; rfl, fun j y hy => ?_⟩
  by_cases hj : j < xs.length
  · rw [List.getElem?_append_left hj] at hy
    exact h.2 j y hy
  · rw [List.getElem?_append_right (by omega)] at hy
    have hj0 : j - xs.length = 0 := by
      have := (List.getElem?_eq_some_iff.1 hy).1
      simp at this
      omega
    rw [hj0] at hy
    simp at hy
    subst hy
    rw [show j = n by have := h.1; omega]
    exact hz
/-- What GetUpdate answers. -/
def UGPost (B : List Int) (te t : TypeId) (w : World) (r : Ending) (w' : World) : Prop :=
  ∃ a n c xs, r = .returned (.tuple #[.agg #[.bool (decide (uEnd B = 0) && (uFull B == 1)), .slice a n c], .int .i64 (uEnd B)]) ∧ EOs w' te t w.heap.size (.slice a n c) xs ∧ (if uEnd B = 0 then UGood B (uK B) xs else xs = []) ∧ Below w.heap.size w w'
/-- GetUpdate, on its way. -/
structure UG (w : World) (R I H : Nat) (full : Bool) (v : Value) (xs : List E3) (l : List Int) (e : Int) (W : World) : Prop where
  i : InIs W I I l e
  r : Blk W R (.cells #[.bool false, .slice none 0 0] 57)
  h : Blk W H (.cells #[.bool full, v] 57)
  es : EOs W 115 83 (H + 1) v xs
  below : Below R w W
  ri : R < I
  ih : I < H
theorem UG.read {w W W' : World} {R I H : Nat} {full : Bool} {v : Value} {xs : List E3} {l l' : List Int} {e e' : Int} (h : UG w R I H full v xs l e W) (hs : InStep I I l' e' W W') : UG w R I H full v xs l' e' W' := by
  obtain ⟨h1, o, ho⟩ := hs
  have := h.ri
  have := h.ih
  exact ⟨h1, ho.keep h.r (by omega), ho.keep h.h (by omega), h.es.turn ho (by omega), h.below.trans (ho.below (by omega) (by have := h.r.lt; omega)), h.ri, h.ih⟩
theorem UG.more {w W W' : World} {R I H : Nat} {full : Bool} {v : Value} {xs : List E3} {l : List Int} {e : Int} (h : UG w R I H full v xs l e W) (hb : Below W.heap.size W W') : UG w R I H full v xs l e W' :=
  ⟨h.i.keep hb, h.r.keep hb, h.h.keep hb, h.es.keep hb, h.below.trans (hb.mono (Nat.le_of_lt h.r.lt)), h.ri, h.ih⟩
/-- An entry more. -/
theorem UG.app {w W w3 : World} {R I H : Nat} {full : Bool} {v v' : Value} {xs : List E3} {z : E3} {l : List Int} {e : Int} (h : UG w R I H full v xs l e W) (hz : EOw W 83 (H + 1) z)
    (ho : w3.ownsRow (H + 1) 115 22 v' (xs.length + 1) (ecs xs ++ ec z.1)) (hg : (W.alloc (.cells (ec z.1).toArray 115)).grownBy w3 v.ownBlock) : UG w R I H full v' (xs ++ [z]) l e (w3.setCell ⟨H, 1, none⟩ v') := by
  have hri := h.ri
  have hih := h.ih
  have hl := h.h.lt
  have hm' : Below W.heap.size W (W.alloc (.cells (ec z.1).toArray 115)) := Go.Proofs.YtgabjmmmiogfjaaDoor.more (Below.refl _ _) _
  have hes := h.es.keep hm'
  have hb : Below (H + 1) W w3 := below_row_grown (hm'.mono (by omega)) (by simp; omega) hes.v hg
  have hh := h.h.upto hb (by omega)
  have hT : Turn H (.cells #[.bool full, v'] 57) w3 (w3.setCell ⟨H, 1, none⟩ v') := ((Turn.same hh).set 1 v').as rfl
  have hr := h.r.upto hb (by omega)
  exact ⟨(h.i.upto hb (by omega)).turn hT (by omega) (by omega), hT.keep hr (by omega), hT.blk, (hes.app (hz.keep hm') (by decide) ho hg).turn hT (by omega), (h.below.trans (hb.mono (by omega))).trans (hT.below (by omega) (by have := hr.lt; omega)), hri, hih⟩
theorem nL_bytes {B : List Int} (hb : Bytes B) (s : Nat × Int) : Bytes (nL B s) := by
  unfold nL rsumP
  split
  · exact (hb.drop _).take _
  · intro x hx; simp at hx; omega
theorem rsumsP_bytes {B : List Int} (hb : Bytes B) (a : Nat) (e most : Int) : Bytes (rsumsP B a e most) := by
  unfold rsumsP
  split
  · exact (hb.drop _).take _
  · exact Bytes.nil
theorem nW_bytes {B : List Int} (hb : Bytes B) (s : Nat × Int) : Bytes (nW B s) := rsumsP_bytes hb _ _ _
theorem nP_bytes {B : List Int} (hb : Bytes B) (s : Nat × Int) : Bytes (nP B s) := rsumsP_bytes hb _ _ _
theorem EOs.base {W : World} {te t base base' : Nat} {v : Value} {xs : List E3} (h : EOs W te t base v xs) (hb : base' ≤ base) : EOs W te t base' v xs := ⟨ownsRow_base h.v hb, fun z hz => ⟨(h.e z hz).l, (h.e z hz).b, (h.e z hz).wl, (h.e z hz).pl, (h.e z hz).wn, (h.e z hz).pn, (h.e z hz).wb, (h.e z hz).pb, ownsRow_base (h.e z hz).wr hb, ownsRow_base (h.e z hz).pr hb⟩⟩
set_option maxRecDepth 100000 in
set_option maxHeartbeats 16000000 in
theorem getUpdate_any (M : Nat) (v : Value) (B : List Int) (w : World) (h : HoldsB w M v B) (hr : B.length ≤ 140737488351232) : Calls Tryd.prog 24 #[v] w (UGPost B 115 83 w) := by
  have HBB := Kp.mk h.bytes
  have H0 := Kp.mk h
  have HL := Kp.mk hr
  obtain ⟨va, vn, vc, rfl, -⟩ := h.slice
  obtain ⟨i0, hi, hz0, hz1, hz2⟩ := info_parts info115'
  obtain ⟨R, hR⟩ : ∃ R, R = w.heap.size := ⟨_, rfl⟩
  have HRe := Kp.mk hR
  clear h hr
  go_enter Tryd.func24, Tryd.ntmps24
  go_wp2_with fail
  rw [← hR]
  have K1 : Kp (Blk (w.alloc (.cells #[.bool false, .slice none 0 0] 57)) R (.cells #[.bool false, .slice none 0 0] 57)) := ⟨Blk.newAt _ hR⟩
  have K2 : Kp (Below R w (w.alloc (.cells #[.bool false, .slice none 0 0] 57))) := ⟨by rw [hR]; exact more (Below.refl _ _) _⟩
  have K3 : Kp (HoldsB (w.alloc (.cells #[.bool false, .slice none 0 0] 57)) M (.slice va vn vc) B) := ⟨H0.out.alloc _⟩
  clear hR H0
  generalize w.alloc (.cells #[.bool false, .slice none 0 0] 57) = w0 at *
  refine (takeI_any M _ B _ K3.out HL.out).mono ?_
  rintro r w1 ⟨I, rfl, hI, hi1, hb⟩
  have J1 := Kp.mk (K1.out.keep hb)
  have J2 : Kp (Below R w w1) := ⟨K2.out.trans (hb.mono (Nat.le_of_lt K1.out.lt))⟩
  have J3 := Kp.mk hi1
  have J4 : Kp (R < I) := ⟨Nat.lt_of_lt_of_le K1.out.lt hI⟩
  have R0 : Kp (Rel B 0 B 0) := ⟨⟨fun _ => rfl, fun h => absurd rfl h⟩⟩
  clear hI hi1 hb K1 K2 K3
  go_wp2_with fail
  refine (u8_any I I B 0 w1 J3.out).mono ?_
  rintro r w2 ⟨rfl, s1⟩
  obtain ⟨q1, q2, q3⟩ := R0.out.next 1
  rw [q1, show numOf (rawP B 0 0 1) = uFull B from rfl]
  rw [q2] at s1
  have E1 : Kp (InIs w2 I I (nextL B 0 1) (stp B 1 (0, 0)).2 ∧ Blk w2 R (.cells #[.bool false, .slice none 0 0] 57) ∧ Below R w w2 ∧ R < I) := ⟨s1.is, s1.keep J1.out (by have := J4.out; omega), by obtain ⟨_, o, ho⟩ := s1; exact J2.out.trans (ho.below (by have := J4.out; omega) (by have := J1.out.lt; omega)), J4.out⟩
  have R1 : Kp (Rel (nextL B 0 1) (stp B 1 (0, 0)).2 B (stp B 1 (0, 0)).1) := ⟨q3⟩
  have hf0 : 0 ≤ uFull B ∧ uFull B ≤ 255 := num1 HBB.out 0 0
  have HU1 : Kp (us1 B = ((stp B 1 (0, 0)).1, if 1 < uFull B then failE (stp B 1 (0, 0)).2 10 else (stp B 1 (0, 0)).2)) := ⟨rfl⟩
  obtain ⟨fu, hfu⟩ : ∃ fu, fu = uFull B := ⟨_, rfl⟩
  have HFU := Kp.mk hfu
  rw [← hfu] at hf0 HU1 ⊢
  clear s1 q1 q2 q3 R0 J1 J2 J3 J4 hfu
  generalize nextL B 0 1 = l0 at *
  obtain ⟨fl, hfl⟩ : ∃ fl, fl = (fu == 1) := ⟨_, rfl⟩
  have HFL : Kp (fl = (uFull B == 1)) := ⟨by rw [hfl, HFU.out]⟩
  have hq : (fu == 1) = fl := hfl.symm
  clear hfl
  by_cases h1 : 1 < fu
  · have HU2 : Kp (us1 B = ((stp B 1 (0, 0)).1, failE (stp B 1 (0, 0)).2 10)) := ⟨by rw [HU1.out, if_pos h1]⟩
    go_wp2_with fail
    refine (fail_any I I l0 _ 10 w2 E1.out.1).mono ?_
    rintro r w3 ⟨rfl, s3⟩
    have E2 : Kp (InIs w3 I I (failL l0 (stp B 1 (0, 0)).2 10) (us1 B).2 ∧ Blk w3 R (.cells #[.bool false, .slice none 0 0] 57) ∧ Below R w w3 ∧ R < I) := ⟨by rw [HU2.out]; exact s3.is, s3.keep E1.out.2.1 (by have := E1.out.2.2.2; omega), by obtain ⟨_, o, ho⟩ := s3; exact E1.out.2.2.1.trans (ho.below (by have := E1.out.2.2.2; omega) (by have := E1.out.2.1.lt; omega)), E1.out.2.2.2⟩
    have R2 : Kp (Rel (failL l0 (stp B 1 (0, 0)).2 10) (us1 B).2 B (us1 B).1) := ⟨by rw [HU2.out]; exact R1.out.fail 10⟩
    clear s3 HU1 HU2 E1 R1 h1
    generalize failL l0 (stp B 1 (0, 0)).2 10 = l1 at *
    obtain ⟨H, hH⟩ : ∃ H, H = w3.heap.size := ⟨_, rfl⟩
    have HHe := Kp.mk hH
    have LI : Kp (I < w3.heap.size) := ⟨E2.out.1.lt⟩
    clear hH
    go_wp2_with (refine wpList_store_row rfl 57 (.tmp 6) (.tmp 20) rfl w3.heap.size #[.bool fl, .slice none 0 0] rfl rfl 57 _ (Blk.newAt _ rfl) info57s rfl (u_one _ _ _ _) ?_; rw [← HHe.out]; refine wpl_world (w := (w3.alloc (.cells #[.bool false, .slice none 0 0] 57)).setRow H #[.bool fl, .slice none 0 0]) (fun W => UG w R I H fl (.slice none 0 0) [] l1 (us1 B).2 W) ⟨(E2.out.1.keep (more (Below.refl _ _) _)).turn (Turn.ofRow (Blk.newAt _ HHe.out) _) (by have := LI.out; have := HHe.out; omega) (by have := LI.out; have := HHe.out; omega), (Turn.ofRow (Blk.newAt _ HHe.out) _).keep (E2.out.2.1.old _) (by have := LI.out; have := E2.out.2.2.2; have := HHe.out; omega), (Turn.ofRow (Blk.newAt _ HHe.out) _).blk, ⟨World.ownsRow_nil _ _ _ _, fun z hz => by cases hz⟩, (E2.out.2.2.1.alloc (by have := E2.out.2.1.lt; omega) _).trans ((Turn.ofRow (Blk.newAt _ HHe.out) _).below (by have := LI.out; have := E2.out.2.2.2; have := HHe.out; omega) (by have := E2.out.2.1.lt; simp; omega)), E2.out.2.2.2, by rw [HHe.out]; exact LI.out⟩ ?_; rintro W4 hst; have S1 := Kp.mk hst; clear hst)
    refine (umany_any I l1 B (us1 B).1 (us1 B).2 W4 S1.out.i R2.out HBB.out).mono ?_
    rintro r w5 ⟨rfl, l3, s3, r3⟩
    rw [show numOf (rawP B (us1 B).1 (us1 B).2 1) = uN B from rfl]
    have S3 : Kp (UG w R I H fl (.slice none 0 0) [] l3 (uT B 0).1.2 w5) := ⟨S1.out.read s3⟩
    have R3 : Kp (Rel l3 (uT B 0).1.2 B (uT B 0).1.1) := ⟨r3⟩
    have hN := num1 HBB.out (us1 B).1 (us1 B).2
    rw [show numOf (rawP B (us1 B).1 (us1 B).2 1) = uN B from rfl] at hN
    have hk : (if 8 < uN B then 0 else uN B) = (uK B : Int) := by
      unfold uK
      split <;> omega
    rw [hk]
    have HK8 : Kp (uK B ≤ 8) := ⟨by unfold uK; split <;> omega⟩
    obtain ⟨k, hke⟩ : ∃ k, k = uK B := ⟨_, rfl⟩
    rw [← hke] at HK8 ⊢
    have HKE := Kp.mk hke
    have hk8 : k ≤ 8 := HK8.out
    clear s3 r3 hk hke hN S1 E2 R2
    go_wp2_with fail
    go_loopw [7, 23] (fun lv ct wr => ∃ (i : Nat) (av : Option Addr) (nv cv : Nat) (xs : List E3) (l : List Int), i ≤ k ∧ lv = .int .i64 (uT B i).2 ∧ ct = .int .i64 i ∧ Kp (UG w R I H fl (.slice av nv cv) xs l (uT B i).1.2 wr ∧ Rel l (uT B i).1.2 B (uT B i).1.1 ∧ UGood B i xs)) (fun _ ct _ => k - (intOf ct).toNat)
    case atStart => exact ⟨0, none, 0, 0, [], l3, by omega, rfl, rfl, ⟨S3.out, R3.out, rfl, fun j z hz => by simp at hz⟩⟩
    case round =>
      obtain ⟨i, av, nv, cv, xs, l, hi', rfl, rfl, HST⟩ := hrel
      by_cases hlt : i < k
      · go_wp2_with fail
        refine (getEntry_any I l B (uT B i).1 wr HST.out.1.i HST.out.2.1 HBB.out).mono ?_
        rintro r w6 ⟨x, rfl, hx, hxw, hxp, l6, s6, r6⟩
        have HXD : Kp (x.d = nD B (uT B i).1) := ⟨hx.1⟩
        have HXL : Kp (x.lf.length = 16) := ⟨by rw [hx.2.2.2.2]; exact nL_len _ _⟩
        have HXS : Kp (UGood B i xs) := ⟨HST.out.2.2⟩
        have HUE : Kp (uE B i (x, nW B (uT B i).1, nP B (uT B i).1)) := ⟨hx, rfl, rfl⟩
        have HFS : Kp (∀ last, (if folB last x = true then (gs7 B (uT B i).1).2 else failE (gs7 B (uT B i).1).2 10) = if uFol B last (uT B i).1 = true then (gs7 B (uT B i).1).2 else failE (gs7 B (uT B i).1).2 10) := ⟨fun last => fol_same ⟨hx.1, hx.2.1, hx.2.2.1, hx.2.2.2.1⟩ hxw.1 hxp.1⟩
        have HWN : Kp (x.wn ≤ 65535 ∧ x.pn ≤ 65535) := ⟨hxw.2.1, hxp.2.1⟩
        have LH : Kp (H + 1 ≤ wr.heap.size) := ⟨HST.out.1.h.lt⟩
        have HEO : Kp (EOw w6 83 (H + 1) (x, nW B (uT B i).1, nP B (uT B i).1)) := ⟨⟨HXL.out, by rw [show (x, nW B (uT B i).1, nP B (uT B i).1).1 = x from rfl, hx.2.2.2.2]; exact nL_bytes HBB.out _, hxw.1, hxp.1, hxw.2.1, hxp.2.1, nW_bytes HBB.out _, nP_bytes HBB.out _, ownsRow_base hxw.2.2 LH.out, ownsRow_base hxp.2.2 LH.out⟩⟩
        have S6 := Kp.mk (HST.out.1.read s6)
        have R6 := Kp.mk r6
        have HIX := Kp.mk (info115s HXL.out)
        have HSZ : Kp ((ec x).toArray.size = 22) := ⟨by rw [List.size_toArray]; exact ec_len HXL.out⟩
        obtain ⟨T8, hT8⟩ : ∃ T, T = w6.heap.size := ⟨_, rfl⟩
        have HT8 := Kp.mk hT8
        have LH8 : Kp (H < T8) := ⟨by rw [hT8]; exact S6.out.h.lt⟩
        clear hx hxw hxp s6 r6 HST hT8
        go_wp2_with (first
          | (refine wpList_store_row rfl 115 (.tmp 8) (.tmp 26) rfl w6.heap.size (ec x).toArray rfl rfl 115 _ (Blk.newAt _ rfl) HIX.out (by rw [HSZ.out]; rfl) (ec_one x) ?_; rw [← HT8.out]; refine wpl_world (fun W => UG w R I H fl (.slice av nv cv) xs l6 (gs7 B (uT B i).1).2 W ∧ Blk W T8 (.cells (ec x).toArray 115) ∧ EOw W 83 (H + 1) (x, nW B (uT B i).1, nP B (uT B i).1)) ⟨by rw [HT8.out, World.setRow_alloc_new]; exact S6.out.more (more (Below.refl _ _) _), by rw [HT8.out, World.setRow_alloc_new]; exact Blk.new _ _, by rw [HT8.out, World.setRow_alloc_new]; exact HEO.out.keep (more (Below.refl _ _) _)⟩ ?_; rintro W6 h6; have S6' := Kp.mk h6; clear h6)
          | (refine wpList_load_row rfl 115 (.tmp 8) rfl T8 rfl 115 (ec x).toArray (0, 0) _ S6'.out.2.1 Tryd.underlying115 rfl HIX.out ?_))
        clear S6 HEO
        refine (follows_any (uT B i).2 x _ HXL.out (by have := HWN.out; omega) (by have := HWN.out; omega)).mono ?_
        rintro r w7 ⟨rfl, hb⟩
        have S6 : Kp (UG w R I H fl (.slice av nv cv) xs l6 (gs7 B (uT B i).1).2 w7 ∧ Blk w7 T8 (.cells (ec x).toArray 115) ∧ EOw w7 83 (H + 1) (x, nW B (uT B i).1, nP B (uT B i).1)) := ⟨S6'.out.1.more hb, S6'.out.2.1.keep hb, S6'.out.2.2.keep hb⟩
        have HTT : Kp ((uT B (i + 1)).1 = ((gs7 B (uT B i).1).1, if folB (uT B i).2 x = true then (gs7 B (uT B i).1).2 else failE (gs7 B (uT B i).1).2 10)) := ⟨by rw [HFS.out]; rfl⟩
        clear hb S6' HFS
        cases hf : folB (uT B i).2 x with
        | true =>
          have HT1 : Kp ((uT B (i + 1)).1 = gs7 B (uT B i).1) := ⟨by rw [HTT.out, hf]; rfl⟩
          have S7 := S6
          have R7 := R6
          clear hf HTT S6 R6
          generalize w7 = W7 at *
          generalize l6 = L7 at *
          have c0 : W7.cell? ⟨T8, 0, none⟩ = some (.int .i64 x.d) := S7.out.2.1.cell 0
          have d1 : W7.cell? ⟨H, 1, none⟩ = some (.slice av nv cv) := S7.out.1.h.cell 1
          go_wp2_with (first
            | (refine wpList_load_row rfl 115 (.tmp 8) rfl T8 rfl 115 (ec x).toArray (0, 0) _ S7.out.2.1 Tryd.underlying115 rfl HIX.out ?_)
            | (refine wpList_buildSlice_one rfl 55 1 (.tmp 37) rfl (ecV x) rfl _ _ (build55e HXL.out W7) ?_)
            | (at_builtin; refine wpList_append_lies _ rfl (.tmp 36) (.tmp 38) 55 rfl (H + 1) 115 i0 (.agg (ec x0).toArray) 22 88 Tryd.underlying55 hi hz0 hz1 hz2 rfl (by decide) (.slice av nv cv) xs.length (ecs xs) rfl (S7.out.1.es.keep (more (Below.refl _ _) _)).v ⟨W7.heap.size, 0, none⟩ 1 1 (ec x) rfl ?e0 ?e1 ?e2 (by decide) ?e3 ?e4 ?e5 (W7.heap.size + 1) ?e6 ?_))
          case e0 => rw [ec_len HXL.out]
          case e1 => exact World.news_of_block (Blk.new W7 (.cells (ec x).toArray 115))
          case e2 => exact fun u hu => List.all_eq_true.1 (by simpa using ec_one x) u hu
          case e3 => have := HXS.out.1; have := HK8.out; unfold maxLen; omega
          case e4 => have := HXS.out.1; have := HK8.out; omega
          case e5 => have := S7.out.1.h.lt; simp; omega
          case e6 => simp
          intro g capN w8 ho hg hv hlt9
          have HH8 : Kp (Blk w8 H (.cells #[.bool fl, .slice av nv cv] 57)) := ⟨S7.out.1.h.upto (below_row_grown (B := H + 1) ((more (Below.refl _ _) _).mono (by have := S7.out.1.h.lt; omega)) (by have := S7.out.1.h.lt; simp; omega) (S7.out.1.es.keep (more (Below.refl _ _) _)).v hg) (by omega)⟩
          have S8 := Kp.mk (S7.out.1.app S7.out.2.2 ho hg)
          clear ho hg hv hlt9 c0 d1
          have d1 : w8.cell? ⟨H, 1, none⟩ = some (.slice av nv cv) := HH8.out.cell 1
          have f1 := HH8.out.frozen 1
          clear S7 HH8
          go_wp2_with fail
          exact ⟨⟨i + 1, _, _, _, xs ++ [(x, nW B (uT B i).1, nP B (uT B i).1)], L7, by omega, by rw [HXD.out]; rfl, by go_num, ⟨by rw [HT1.out]; exact S8.out, by rw [HT1.out]; exact R7.out, UGood.app HXS.out HUE.out⟩⟩, by simp [intOf]; omega⟩
        | false =>
          have HT1 : Kp ((uT B (i + 1)).1 = ((gs7 B (uT B i).1).1, failE (gs7 B (uT B i).1).2 10)) := ⟨by rw [HTT.out, hf]; rfl⟩
          clear hf HTT
          go_wp2_with fail
          refine (fail_any I I l6 _ 10 w7 S6.out.1.i).mono ?_
          rintro r W7 ⟨rfl, s7⟩
          have LT8 : Kp (I < T8 ∧ I < H + 1) := ⟨by have := S6.out.1.ih; have := LH8.out; omega, by have := S6.out.1.ih; omega⟩
          have S7 : Kp (UG w R I H fl (.slice av nv cv) xs (failL l6 (gs7 B (uT B i).1).2 10) (failE (gs7 B (uT B i).1).2 10) W7 ∧ Blk W7 T8 (.cells (ec x).toArray 115) ∧ EOw W7 83 (H + 1) (x, nW B (uT B i).1, nP B (uT B i).1)) := ⟨S6.out.1.read s7, s7.keep S6.out.2.1 (by have := LT8.out; omega), by obtain ⟨_, o, ho⟩ := s7; exact S6.out.2.2.turn ho LT8.out.2⟩
          have R7 := Kp.mk (R6.out.fail 10)
          clear s7 S6 R6 LT8
          generalize failL l6 (gs7 B (uT B i).1).2 10 = L7 at *
          have c0 : W7.cell? ⟨T8, 0, none⟩ = some (.int .i64 x.d) := S7.out.2.1.cell 0
          have d1 : W7.cell? ⟨H, 1, none⟩ = some (.slice av nv cv) := S7.out.1.h.cell 1
          go_wp2_with (first
            | (refine wpList_load_row rfl 115 (.tmp 8) rfl T8 rfl 115 (ec x).toArray (0, 0) _ S7.out.2.1 Tryd.underlying115 rfl HIX.out ?_)
            | (refine wpList_buildSlice_one rfl 55 1 (.tmp 37) rfl (ecV x) rfl _ _ (build55e HXL.out W7) ?_)
            | (at_builtin; refine wpList_append_lies _ rfl (.tmp 36) (.tmp 38) 55 rfl (H + 1) 115 i0 (.agg (ec x0).toArray) 22 88 Tryd.underlying55 hi hz0 hz1 hz2 rfl (by decide) (.slice av nv cv) xs.length (ecs xs) rfl (S7.out.1.es.keep (more (Below.refl _ _) _)).v ⟨W7.heap.size, 0, none⟩ 1 1 (ec x) rfl ?e0 ?e1 ?e2 (by decide) ?e3 ?e4 ?e5 (W7.heap.size + 1) ?e6 ?_))
          case e0 => rw [ec_len HXL.out]
          case e1 => exact World.news_of_block (Blk.new W7 (.cells (ec x).toArray 115))
          case e2 => exact fun u hu => List.all_eq_true.1 (by simpa using ec_one x) u hu
          case e3 => have := HXS.out.1; have := HK8.out; unfold maxLen; omega
          case e4 => have := HXS.out.1; have := HK8.out; omega
          case e5 => have := S7.out.1.h.lt; simp; omega
          case e6 => simp
          intro g capN w8 ho hg hv hlt9
          have HH8 : Kp (Blk w8 H (.cells #[.bool fl, .slice av nv cv] 57)) := ⟨S7.out.1.h.upto (below_row_grown (B := H + 1) ((more (Below.refl _ _) _).mono (by have := S7.out.1.h.lt; omega)) (by have := S7.out.1.h.lt; simp; omega) (S7.out.1.es.keep (more (Below.refl _ _) _)).v hg) (by omega)⟩
          have S8 := Kp.mk (S7.out.1.app S7.out.2.2 ho hg)
          clear ho hg hv hlt9 c0 d1
          have d1 : w8.cell? ⟨H, 1, none⟩ = some (.slice av nv cv) := HH8.out.cell 1
          have f1 := HH8.out.frozen 1
          clear S7 HH8
          go_wp2_with fail
          exact ⟨⟨i + 1, _, _, _, xs ++ [(x, nW B (uT B i).1, nP B (uT B i).1)], L7, by omega, by rw [HXD.out]; rfl, by go_num, ⟨by rw [HT1.out]; exact S8.out, by rw [HT1.out]; exact R7.out, UGood.app HXS.out HUE.out⟩⟩, by simp [intOf]; omega⟩
      · obtain rfl : i = k := by omega
        have HWK : Kp (uT B i = uT B (uK B)) := ⟨by rw [HKE.out]⟩
        have HGD : Kp (UGood B (uK B) xs) := ⟨by have := HST.out.2.2; rw [HKE.out] at this; exact this⟩
        go_wp2_with fail
        refine (endI_any I I l _ wr HST.out.1.i).mono ?_
        rintro r w5 ⟨rfl, l5, s5⟩
        rw [uend_is HST.out.2.1, HWK.out, show (if 0 < rleft B (uT B (uK B)).1.1 (uT B (uK B)).1.2 then 10 else (uT B (uK B)).1.2) = uEnd B from rfl]
        have S5 := Kp.mk (HST.out.1.read s5)
        clear s5 HST
        by_cases he : uEnd B = 0
        · have HGE := Kp.mk he
          rw [he]
          clear he
          go_wp2_with (first
            | (refine wpList_load_row rfl 57 (.tmp 6) rfl H rfl 57 #[.bool fl, .slice av nv cv] (0, 0) _ S5.out.h Tryd.underlying57 rfl info57s ?_)
            | (refine wpList_store_row rfl 57 (.tmp 2) (.tmp 48) rfl R #[.bool fl, .slice av nv cv] rfl rfl 57 _ S5.out.r info57s rfl (u_one _ _ _ _) ?_; refine wpl_world (w := w5.setRow R #[.bool fl, .slice av nv cv]) (fun W => Blk W R (.cells #[.bool fl, .slice av nv cv] 57) ∧ EOs W 115 83 (H + 1) (.slice av nv cv) xs ∧ Below R w W) ⟨(Turn.ofRow S5.out.r _).blk, S5.out.es.turn (Turn.ofRow S5.out.r _) (by have := S5.out.ri; have := S5.out.ih; omega), S5.out.below.trans ((Turn.ofRow S5.out.r _).below (Nat.le_refl _) (by have := S5.out.r.lt; omega))⟩ ?_; rintro W6 h6; have S6 := Kp.mk h6; clear h6))
          exact bodyPost_ret (results_row_tmpU rfl _ _ R 57 _ _ _ (.int .i64 0) rfl rfl S6.out.1 Tryd.underlying57 rfl info57s) rfl ⟨av, nv, cv, xs, by rw [HGE.out, HFL.out]; rfl, EOs.base S6.out.2.1 (by have := HRe.out; have := S5.out.ri; have := S5.out.ih; omega), by rw [if_pos HGE.out]; exact HGD.out, by rw [← HRe.out]; exact S6.out.2.2⟩
        · have HGE := Kp.mk he
          have hne : (uEnd B != 0) = true := by simpa using he
          obtain ⟨E, hE⟩ : ∃ E, E = uEnd B := ⟨_, rfl⟩
          have HE := Kp.mk hE
          rw [← hE] at hne ⊢
          clear he hE
          go_wp2_with (refine wpList_store_row rfl 57 (.tmp 2) (.tmp 46) rfl R #[.bool false, .slice none 0 0] rfl rfl 57 _ S5.out.r info57s rfl (u_one _ _ _ _) ?_; refine wpl_world (w := w5.setRow R #[.bool false, .slice none 0 0]) (fun W => Blk W R (.cells #[.bool false, .slice none 0 0] 57) ∧ Below R w W) ⟨(Turn.ofRow S5.out.r _).blk, S5.out.below.trans ((Turn.ofRow S5.out.r _).below (Nat.le_refl _) (by have := S5.out.r.lt; omega))⟩ ?_; rintro W6 h6; have S6 := Kp.mk h6; clear h6)
          exact bodyPost_ret (results_row_tmpU rfl _ _ R 57 _ _ _ (.int .i64 E) rfl rfl S6.out.1 Tryd.underlying57 rfl info57s) rfl ⟨none, 0, 0, [], by rw [decide_eq_false HGE.out, HE.out]; rfl, ⟨World.ownsRow_nil _ _ _ _, fun z hz => by cases hz⟩, by rw [if_neg HGE.out], by rw [← HRe.out]; exact S6.out.2⟩
  · have HU2 : Kp (us1 B = stp B 1 (0, 0)) := ⟨by rw [HU1.out, if_neg h1]⟩
    have E2 : Kp (InIs w2 I I l0 (us1 B).2 ∧ Blk w2 R (.cells #[.bool false, .slice none 0 0] 57) ∧ Below R w w2 ∧ R < I) := ⟨by rw [HU2.out]; exact E1.out.1, E1.out.2.1, E1.out.2.2.1, E1.out.2.2.2⟩
    have R2 : Kp (Rel l0 (us1 B).2 B (us1 B).1) := ⟨by rw [HU2.out]; exact R1.out⟩
    have h1' : ¬ (1 : Int) < fu := h1
    clear HU1 HU2 E1 R1
    generalize w2 = w3 at *
    generalize l0 = l1 at *
    obtain ⟨H, hH⟩ : ∃ H, H = w3.heap.size := ⟨_, rfl⟩
    have HHe := Kp.mk hH
    have LI : Kp (I < w3.heap.size) := ⟨E2.out.1.lt⟩
    clear hH
    go_wp2_with (refine wpList_store_row rfl 57 (.tmp 6) (.tmp 20) rfl w3.heap.size #[.bool fl, .slice none 0 0] rfl rfl 57 _ (Blk.newAt _ rfl) info57s rfl (u_one _ _ _ _) ?_; rw [← HHe.out]; refine wpl_world (w := (w3.alloc (.cells #[.bool false, .slice none 0 0] 57)).setRow H #[.bool fl, .slice none 0 0]) (fun W => UG w R I H fl (.slice none 0 0) [] l1 (us1 B).2 W) ⟨(E2.out.1.keep (more (Below.refl _ _) _)).turn (Turn.ofRow (Blk.newAt _ HHe.out) _) (by have := LI.out; have := HHe.out; omega) (by have := LI.out; have := HHe.out; omega), (Turn.ofRow (Blk.newAt _ HHe.out) _).keep (E2.out.2.1.old _) (by have := LI.out; have := E2.out.2.2.2; have := HHe.out; omega), (Turn.ofRow (Blk.newAt _ HHe.out) _).blk, ⟨World.ownsRow_nil _ _ _ _, fun z hz => by cases hz⟩, (E2.out.2.2.1.alloc (by have := E2.out.2.1.lt; omega) _).trans ((Turn.ofRow (Blk.newAt _ HHe.out) _).below (by have := LI.out; have := E2.out.2.2.2; have := HHe.out; omega) (by have := E2.out.2.1.lt; simp; omega)), E2.out.2.2.2, by rw [HHe.out]; exact LI.out⟩ ?_; rintro W4 hst; have S1 := Kp.mk hst; clear hst)
    refine (umany_any I l1 B (us1 B).1 (us1 B).2 W4 S1.out.i R2.out HBB.out).mono ?_
    rintro r w5 ⟨rfl, l3, s3, r3⟩
    rw [show numOf (rawP B (us1 B).1 (us1 B).2 1) = uN B from rfl]
    have S3 : Kp (UG w R I H fl (.slice none 0 0) [] l3 (uT B 0).1.2 w5) := ⟨S1.out.read s3⟩
    have R3 : Kp (Rel l3 (uT B 0).1.2 B (uT B 0).1.1) := ⟨r3⟩
    have hN := num1 HBB.out (us1 B).1 (us1 B).2
    rw [show numOf (rawP B (us1 B).1 (us1 B).2 1) = uN B from rfl] at hN
    have hk : (if 8 < uN B then 0 else uN B) = (uK B : Int) := by
      unfold uK
      split <;> omega
    rw [hk]
    have HK8 : Kp (uK B ≤ 8) := ⟨by unfold uK; split <;> omega⟩
    obtain ⟨k, hke⟩ : ∃ k, k = uK B := ⟨_, rfl⟩
    rw [← hke] at HK8 ⊢
    have HKE := Kp.mk hke
    have hk8 : k ≤ 8 := HK8.out
    clear s3 r3 hk hke hN S1 E2 R2
    go_wp2_with fail
    go_loopw [7, 23] (fun lv ct wr => ∃ (i : Nat) (av : Option Addr) (nv cv : Nat) (xs : List E3) (l : List Int), i ≤ k ∧ lv = .int .i64 (uT B i).2 ∧ ct = .int .i64 i ∧ Kp (UG w R I H fl (.slice av nv cv) xs l (uT B i).1.2 wr ∧ Rel l (uT B i).1.2 B (uT B i).1.1 ∧ UGood B i xs)) (fun _ ct _ => k - (intOf ct).toNat)
    case atStart => exact ⟨0, none, 0, 0, [], l3, by omega, rfl, rfl, ⟨S3.out, R3.out, rfl, fun j z hz => by simp at hz⟩⟩
    case round =>
      obtain ⟨i, av, nv, cv, xs, l, hi', rfl, rfl, HST⟩ := hrel
      by_cases hlt : i < k
      · go_wp2_with fail
        refine (getEntry_any I l B (uT B i).1 wr HST.out.1.i HST.out.2.1 HBB.out).mono ?_
        rintro r w6 ⟨x, rfl, hx, hxw, hxp, l6, s6, r6⟩
        have HXD : Kp (x.d = nD B (uT B i).1) := ⟨hx.1⟩
        have HXL : Kp (x.lf.length = 16) := ⟨by rw [hx.2.2.2.2]; exact nL_len _ _⟩
        have HXS : Kp (UGood B i xs) := ⟨HST.out.2.2⟩
        have HUE : Kp (uE B i (x, nW B (uT B i).1, nP B (uT B i).1)) := ⟨hx, rfl, rfl⟩
        have HFS : Kp (∀ last, (if folB last x = true then (gs7 B (uT B i).1).2 else failE (gs7 B (uT B i).1).2 10) = if uFol B last (uT B i).1 = true then (gs7 B (uT B i).1).2 else failE (gs7 B (uT B i).1).2 10) := ⟨fun last => fol_same ⟨hx.1, hx.2.1, hx.2.2.1, hx.2.2.2.1⟩ hxw.1 hxp.1⟩
        have HWN : Kp (x.wn ≤ 65535 ∧ x.pn ≤ 65535) := ⟨hxw.2.1, hxp.2.1⟩
        have LH : Kp (H + 1 ≤ wr.heap.size) := ⟨HST.out.1.h.lt⟩
        have HEO : Kp (EOw w6 83 (H + 1) (x, nW B (uT B i).1, nP B (uT B i).1)) := ⟨⟨HXL.out, by rw [show (x, nW B (uT B i).1, nP B (uT B i).1).1 = x from rfl, hx.2.2.2.2]; exact nL_bytes HBB.out _, hxw.1, hxp.1, hxw.2.1, hxp.2.1, nW_bytes HBB.out _, nP_bytes HBB.out _, ownsRow_base hxw.2.2 LH.out, ownsRow_base hxp.2.2 LH.out⟩⟩
        have S6 := Kp.mk (HST.out.1.read s6)
        have R6 := Kp.mk r6
        have HIX := Kp.mk (info115s HXL.out)
        have HSZ : Kp ((ec x).toArray.size = 22) := ⟨by rw [List.size_toArray]; exact ec_len HXL.out⟩
        obtain ⟨T8, hT8⟩ : ∃ T, T = w6.heap.size := ⟨_, rfl⟩
        have HT8 := Kp.mk hT8
        have LH8 : Kp (H < T8) := ⟨by rw [hT8]; exact S6.out.h.lt⟩
        clear hx hxw hxp s6 r6 HST hT8
        go_wp2_with (first
          | (refine wpList_store_row rfl 115 (.tmp 8) (.tmp 26) rfl w6.heap.size (ec x).toArray rfl rfl 115 _ (Blk.newAt _ rfl) HIX.out (by rw [HSZ.out]; rfl) (ec_one x) ?_; rw [← HT8.out]; refine wpl_world (fun W => UG w R I H fl (.slice av nv cv) xs l6 (gs7 B (uT B i).1).2 W ∧ Blk W T8 (.cells (ec x).toArray 115) ∧ EOw W 83 (H + 1) (x, nW B (uT B i).1, nP B (uT B i).1)) ⟨by rw [HT8.out, World.setRow_alloc_new]; exact S6.out.more (more (Below.refl _ _) _), by rw [HT8.out, World.setRow_alloc_new]; exact Blk.new _ _, by rw [HT8.out, World.setRow_alloc_new]; exact HEO.out.keep (more (Below.refl _ _) _)⟩ ?_; rintro W6 h6; have S6' := Kp.mk h6; clear h6)
          | (refine wpList_load_row rfl 115 (.tmp 8) rfl T8 rfl 115 (ec x).toArray (0, 0) _ S6'.out.2.1 Tryd.underlying115 rfl HIX.out ?_))
        clear S6 HEO
        refine (follows_any (uT B i).2 x _ HXL.out (by have := HWN.out; omega) (by have := HWN.out; omega)).mono ?_
        rintro r w7 ⟨rfl, hb⟩
        have S6 : Kp (UG w R I H fl (.slice av nv cv) xs l6 (gs7 B (uT B i).1).2 w7 ∧ Blk w7 T8 (.cells (ec x).toArray 115) ∧ EOw w7 83 (H + 1) (x, nW B (uT B i).1, nP B (uT B i).1)) := ⟨S6'.out.1.more hb, S6'.out.2.1.keep hb, S6'.out.2.2.keep hb⟩
        have HTT : Kp ((uT B (i + 1)).1 = ((gs7 B (uT B i).1).1, if folB (uT B i).2 x = true then (gs7 B (uT B i).1).2 else failE (gs7 B (uT B i).1).2 10)) := ⟨by rw [HFS.out]; rfl⟩
        clear hb S6' HFS
        cases hf : folB (uT B i).2 x with
        | true =>
          have HT1 : Kp ((uT B (i + 1)).1 = gs7 B (uT B i).1) := ⟨by rw [HTT.out, hf]; rfl⟩
          have S7 := S6
          have R7 := R6
          clear hf HTT S6 R6
          generalize w7 = W7 at *
          generalize l6 = L7 at *
          have c0 : W7.cell? ⟨T8, 0, none⟩ = some (.int .i64 x.d) := S7.out.2.1.cell 0
          have d1 : W7.cell? ⟨H, 1, none⟩ = some (.slice av nv cv) := S7.out.1.h.cell 1
          go_wp2_with (first
            | (refine wpList_load_row rfl 115 (.tmp 8) rfl T8 rfl 115 (ec x).toArray (0, 0) _ S7.out.2.1 Tryd.underlying115 rfl HIX.out ?_)
            | (refine wpList_buildSlice_one rfl 55 1 (.tmp 37) rfl (ecV x) rfl _ _ (build55e HXL.out W7) ?_)
            | (at_builtin; refine wpList_append_lies _ rfl (.tmp 36) (.tmp 38) 55 rfl (H + 1) 115 i0 (.agg (ec x0).toArray) 22 88 Tryd.underlying55 hi hz0 hz1 hz2 rfl (by decide) (.slice av nv cv) xs.length (ecs xs) rfl (S7.out.1.es.keep (more (Below.refl _ _) _)).v ⟨W7.heap.size, 0, none⟩ 1 1 (ec x) rfl ?e0 ?e1 ?e2 (by decide) ?e3 ?e4 ?e5 (W7.heap.size + 1) ?e6 ?_))
          case e0 => rw [ec_len HXL.out]
          case e1 => exact World.news_of_block (Blk.new W7 (.cells (ec x).toArray 115))
          case e2 => exact fun u hu => List.all_eq_true.1 (by simpa using ec_one x) u hu
          case e3 => have := HXS.out.1; have := HK8.out; unfold maxLen; omega
          case e4 => have := HXS.out.1; have := HK8.out; omega
          case e5 => have := S7.out.1.h.lt; simp; omega
          case e6 => simp
          intro g capN w8 ho hg hv hlt9
          have HH8 : Kp (Blk w8 H (.cells #[.bool fl, .slice av nv cv] 57)) := ⟨S7.out.1.h.upto (below_row_grown (B := H + 1) ((more (Below.refl _ _) _).mono (by have := S7.out.1.h.lt; omega)) (by have := S7.out.1.h.lt; simp; omega) (S7.out.1.es.keep (more (Below.refl _ _) _)).v hg) (by omega)⟩
          have S8 := Kp.mk (S7.out.1.app S7.out.2.2 ho hg)
          clear ho hg hv hlt9 c0 d1
          have d1 : w8.cell? ⟨H, 1, none⟩ = some (.slice av nv cv) := HH8.out.cell 1
          have f1 := HH8.out.frozen 1
          clear S7 HH8
          go_wp2_with fail
          exact ⟨⟨i + 1, _, _, _, xs ++ [(x, nW B (uT B i).1, nP B (uT B i).1)], L7, by omega, by rw [HXD.out]; rfl, by go_num, ⟨by rw [HT1.out]; exact S8.out, by rw [HT1.out]; exact R7.out, UGood.app HXS.out HUE.out⟩⟩, by simp [intOf]; omega⟩
        | false =>
          have HT1 : Kp ((uT B (i + 1)).1 = ((gs7 B (uT B i).1).1, failE (gs7 B (uT B i).1).2 10)) := ⟨by rw [HTT.out, hf]; rfl⟩
          clear hf HTT
          go_wp2_with fail
          refine (fail_any I I l6 _ 10 w7 S6.out.1.i).mono ?_
          rintro r W7 ⟨rfl, s7⟩
          have LT8 : Kp (I < T8 ∧ I < H + 1) := ⟨by have := S6.out.1.ih; have := LH8.out; omega, by have := S6.out.1.ih; omega⟩
          have S7 : Kp (UG w R I H fl (.slice av nv cv) xs (failL l6 (gs7 B (uT B i).1).2 10) (failE (gs7 B (uT B i).1).2 10) W7 ∧ Blk W7 T8 (.cells (ec x).toArray 115) ∧ EOw W7 83 (H + 1) (x, nW B (uT B i).1, nP B (uT B i).1)) := ⟨S6.out.1.read s7, s7.keep S6.out.2.1 (by have := LT8.out; omega), by obtain ⟨_, o, ho⟩ := s7; exact S6.out.2.2.turn ho LT8.out.2⟩
          have R7 := Kp.mk (R6.out.fail 10)
          clear s7 S6 R6 LT8
          generalize failL l6 (gs7 B (uT B i).1).2 10 = L7 at *
          have c0 : W7.cell? ⟨T8, 0, none⟩ = some (.int .i64 x.d) := S7.out.2.1.cell 0
          have d1 : W7.cell? ⟨H, 1, none⟩ = some (.slice av nv cv) := S7.out.1.h.cell 1
          go_wp2_with (first
            | (refine wpList_load_row rfl 115 (.tmp 8) rfl T8 rfl 115 (ec x).toArray (0, 0) _ S7.out.2.1 Tryd.underlying115 rfl HIX.out ?_)
            | (refine wpList_buildSlice_one rfl 55 1 (.tmp 37) rfl (ecV x) rfl _ _ (build55e HXL.out W7) ?_)
            | (at_builtin; refine wpList_append_lies _ rfl (.tmp 36) (.tmp 38) 55 rfl (H + 1) 115 i0 (.agg (ec x0).toArray) 22 88 Tryd.underlying55 hi hz0 hz1 hz2 rfl (by decide) (.slice av nv cv) xs.length (ecs xs) rfl (S7.out.1.es.keep (more (Below.refl _ _) _)).v ⟨W7.heap.size, 0, none⟩ 1 1 (ec x) rfl ?e0 ?e1 ?e2 (by decide) ?e3 ?e4 ?e5 (W7.heap.size + 1) ?e6 ?_))
          case e0 => rw [ec_len HXL.out]
          case e1 => exact World.news_of_block (Blk.new W7 (.cells (ec x).toArray 115))
          case e2 => exact fun u hu => List.all_eq_true.1 (by simpa using ec_one x) u hu
          case e3 => have := HXS.out.1; have := HK8.out; unfold maxLen; omega
          case e4 => have := HXS.out.1; have := HK8.out; omega
          case e5 => have := S7.out.1.h.lt; simp; omega
          case e6 => simp
          intro g capN w8 ho hg hv hlt9
          have HH8 : Kp (Blk w8 H (.cells #[.bool fl, .slice av nv cv] 57)) := ⟨S7.out.1.h.upto (below_row_grown (B := H + 1) ((more (Below.refl _ _) _).mono (by have := S7.out.1.h.lt; omega)) (by have := S7.out.1.h.lt; simp; omega) (S7.out.1.es.keep (more (Below.refl _ _) _)).v hg) (by omega)⟩
          have S8 := Kp.mk (S7.out.1.app S7.out.2.2 ho hg)
          clear ho hg hv hlt9 c0 d1
          have d1 : w8.cell? ⟨H, 1, none⟩ = some (.slice av nv cv) := HH8.out.cell 1
          have f1 := HH8.out.frozen 1
          clear S7 HH8
          go_wp2_with fail
          exact ⟨⟨i + 1, _, _, _, xs ++ [(x, nW B (uT B i).1, nP B (uT B i).1)], L7, by omega, by rw [HXD.out]; rfl, by go_num, ⟨by rw [HT1.out]; exact S8.out, by rw [HT1.out]; exact R7.out, UGood.app HXS.out HUE.out⟩⟩, by simp [intOf]; omega⟩
      · obtain rfl : i = k := by omega
        have HWK : Kp (uT B i = uT B (uK B)) := ⟨by rw [HKE.out]⟩
        have HGD : Kp (UGood B (uK B) xs) := ⟨by have := HST.out.2.2; rw [HKE.out] at this; exact this⟩
        go_wp2_with fail
        refine (endI_any I I l _ wr HST.out.1.i).mono ?_
        rintro r w5 ⟨rfl, l5, s5⟩
        rw [uend_is HST.out.2.1, HWK.out, show (if 0 < rleft B (uT B (uK B)).1.1 (uT B (uK B)).1.2 then 10 else (uT B (uK B)).1.2) = uEnd B from rfl]
        have S5 := Kp.mk (HST.out.1.read s5)
        clear s5 HST
        by_cases he : uEnd B = 0
        · have HGE := Kp.mk he
          rw [he]
          clear he
          go_wp2_with (first
            | (refine wpList_load_row rfl 57 (.tmp 6) rfl H rfl 57 #[.bool fl, .slice av nv cv] (0, 0) _ S5.out.h Tryd.underlying57 rfl info57s ?_)
            | (refine wpList_store_row rfl 57 (.tmp 2) (.tmp 48) rfl R #[.bool fl, .slice av nv cv] rfl rfl 57 _ S5.out.r info57s rfl (u_one _ _ _ _) ?_; refine wpl_world (w := w5.setRow R #[.bool fl, .slice av nv cv]) (fun W => Blk W R (.cells #[.bool fl, .slice av nv cv] 57) ∧ EOs W 115 83 (H + 1) (.slice av nv cv) xs ∧ Below R w W) ⟨(Turn.ofRow S5.out.r _).blk, S5.out.es.turn (Turn.ofRow S5.out.r _) (by have := S5.out.ri; have := S5.out.ih; omega), S5.out.below.trans ((Turn.ofRow S5.out.r _).below (Nat.le_refl _) (by have := S5.out.r.lt; omega))⟩ ?_; rintro W6 h6; have S6 := Kp.mk h6; clear h6))
          exact bodyPost_ret (results_row_tmpU rfl _ _ R 57 _ _ _ (.int .i64 0) rfl rfl S6.out.1 Tryd.underlying57 rfl info57s) rfl ⟨av, nv, cv, xs, by rw [HGE.out, HFL.out]; rfl, EOs.base S6.out.2.1 (by have := HRe.out; have := S5.out.ri; have := S5.out.ih; omega), by rw [if_pos HGE.out]; exact HGD.out, by rw [← HRe.out]; exact S6.out.2.2⟩
        · have HGE := Kp.mk he
          have hne : (uEnd B != 0) = true := by simpa using he
          obtain ⟨E, hE⟩ : ∃ E, E = uEnd B := ⟨_, rfl⟩
          have HE := Kp.mk hE
          rw [← hE] at hne ⊢
          clear he hE
          go_wp2_with (refine wpList_store_row rfl 57 (.tmp 2) (.tmp 46) rfl R #[.bool false, .slice none 0 0] rfl rfl 57 _ S5.out.r info57s rfl (u_one _ _ _ _) ?_; refine wpl_world (w := w5.setRow R #[.bool false, .slice none 0 0]) (fun W => Blk W R (.cells #[.bool false, .slice none 0 0] 57) ∧ Below R w W) ⟨(Turn.ofRow S5.out.r _).blk, S5.out.below.trans ((Turn.ofRow S5.out.r _).below (Nat.le_refl _) (by have := S5.out.r.lt; omega))⟩ ?_; rintro W6 h6; have S6 := Kp.mk h6; clear h6)
          exact bodyPost_ret (results_row_tmpU rfl _ _ R 57 _ _ _ (.int .i64 E) rfl rfl S6.out.1 Tryd.underlying57 rfl info57s) rfl ⟨none, 0, 0, [], by rw [decide_eq_false HGE.out, HE.out]; rfl, ⟨World.ownsRow_nil _ _ _ _, fun z hz => by cases hz⟩, by rw [if_neg HGE.out], by rw [← HRe.out]; exact S6.out.2⟩
end Go.Proofs.YtgabjmmmiogfjaaDoor
