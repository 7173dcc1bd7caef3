/-
  frame.GetUpdate.
  Are two credentials, two updates the same?
  Are two updates the same?
  Is an update light?
-/
import Derived.Test.YtioeaknhcfkfcaaBu10
namespace Go.Proofs.Ytioeaknhcfkfcaa
open Go.RowKit

theorem uend_is {l B : List Int} {e : Int} {a : Nat} (hr : Rel l e B a) : endE l e = if 0 < rleft B a e then 10 else e := by
  unfold endE
  rw [hr.left]
  by_cases h : 0 < rleft B a e
  · rw [if_pos h, if_pos h]
    have : e = 0 := by
      false_or_by_contra
      rename_i hne
      unfold rleft at h
      rw [if_neg hne] at h
      omega
    rw [this]
    rfl
  · rw [if_neg h, if_neg h]
theorem results_row_tmpU {P : Program} {fn : Func} {p q : Tmp} {ty : TypeId} (h : fn.results = #[.cell p ty, .tmp q]) (tmps : Array Value) (w : World) (g : Nat) (t : TypeId) (cs : Array Value) (fr : Nat × Nat) (d : TypeDesc) (u : Value)
    (hp : tmps.getD p undef = .pointer (some ⟨g, 0, none⟩)) (hq : tmps.getD q undef = u) (hg : w.heap[g]? = some (.cells cs t fr))
    (hu : P.underlying ty = some d) (hd : (match d with | .struct _ | .array _ _ => true | _ => false) = true) (hi : (P.info? ty).map (·.size) = some cs.size) :
    (results fn tmps).run P w = .ok (.tuple #[.agg cs, u]) w := by
  have hp' : tmps[p]?.getD undef = .pointer (some ⟨g, 0, none⟩) := by simpa using hp
  have hq' : tmps[q]?.getD undef = u := by simpa using hq
  simp [results, h, hp', hq', asAddr, run_loadVar_row w g t ty cs fr d hg hu hd hi]
set_option maxHeartbeats 1600000 in
theorem umany_any (I : Nat) (l B : List Int) (at' : Nat) (e : Int) (w : World) (h : InIs w I I l e) (hr : Rel l e B at') (hb : Bytes B) :
    Calls Try.prog 33 #[.pointer (some ⟨I, 0, none⟩)] w fun r w' => r = .returned (.int .i64 (if 8 < numOf (rawP B at' e 1) then 0 else numOf (rawP B at' e 1))) ∧
      ∃ l', InStep I I l' (if 8 < numOf (rawP B at' e 1) then failE (rawE B at' e 1) 8 else rawE B at' e 1) w w' ∧ Rel l' (if 8 < numOf (rawP B at' e 1) then failE (rawE B at' e 1) 8 else rawE B at' e 1) B (rawA B at' e 1) := by
  have H := Kp.mk h
  have R := Kp.mk hr
  have hn := num1 hb at' e
  obtain ⟨n, hne⟩ : ∃ n, n = numOf (rawP B at' e 1) := ⟨_, rfl⟩
  rw [← hne] at hn ⊢
  have HNE := Kp.mk hne
  have HN := Kp.mk hn
  have hw : IntKind.i64.wrap n = n := IntWalk.i64_in _ (by omega)
  clear h hr hb hne hn
  by_cases hc : 8 < n
  · simp only [if_pos hc]
    go_enter Try.func33, Try.ntmps33
    go_wp2_with fail
    refine (u8_any I I l e _ H.out).mono ?_
    rintro r w1 ⟨rfl, s1⟩
    obtain ⟨q1, q2, q3⟩ := R.out.next 1
    rw [q1, ← HNE.out]
    rw [q2] at s1
    have S1 := Kp.mk s1
    have R1 := Kp.mk q3
    clear s1 q1 q2 q3
    go_wp2_with fail
    refine (fail_any I I _ _ 8 w1 S1.out.is).mono ?_
    rintro r w2 ⟨rfl, s2⟩
    have S2 := Kp.mk (S1.out.trans s2)
    have R2 := Kp.mk (R1.out.fail 8)
    clear s2
    go_wp2_with fail
    go_ret
    exact ⟨rfl, _, S2.out, R2.out⟩
  · simp only [if_neg hc]
    go_enter Try.func33, Try.ntmps33
    go_wp2_with fail
    refine (u8_any I I l e _ H.out).mono ?_
    rintro r w1 ⟨rfl, s1⟩
    obtain ⟨q1, q2, q3⟩ := R.out.next 1
    rw [q1, ← HNE.out]
    rw [q2] at s1
    have S1 := Kp.mk s1
    have R1 := Kp.mk q3
    clear s1 q1 q2 q3
    go_wp2_with fail
    go_ret
    exact ⟨rfl, _, S1.out, R1.out⟩
theorem info57s : (Try.prog.info? 45).map (·.size) = some 2 := by kernel_rfl
theorem u_one (b : Bool) (a : Option Addr) (m c : Nat) : (#[Value.bool b, .slice a m c] : Array Value).all (·.oneCell') = true := by simp [Value.oneCell']
theorem info115' : (Try.prog.info? 76).map (fun i => (i.zero, i.size, i.bytes)) = some (some (.agg (ec x0).toArray), 22, 88) := by kernel_rfl
theorem build55e {x : EV} (h : x.lf.length = 16) (w : World) : (Instr.buildSlice 36 1 #[(0, ecV x)]).run Try.prog w = .ok (.slice (some ⟨w.heap.size, 0, none⟩) 1 1) (w.alloc (.cells (ec x).toArray 76)) := by
  obtain ⟨d, e, s, m, lf, wa, wn, wc, pa, pn, pc⟩ := x
  obtain ⟨y0, y1, y2, y3, y4, y5, y6, y7, y8, y9, y10, y11, y12, y13, y14, y15, rfl⟩ := list16 h
  kernel_rfl
/-- The j-th entry is what stands there. -/
def uE (B : List Int) (j : Nat) (z : E3) : Prop := (z.1.d = nD B (uT B j).1 ∧ z.1.e = nE B (uT B j).1 ∧ z.1.s = nS B (uT B j).1 ∧ z.1.m = nM B (uT B j).1 ∧ z.1.lf = nL B (uT B j).1) ∧ z.2.1 = nW B (uT B j).1 ∧ z.2.2 = nP B (uT B j).1
def UGood (B : List Int) (n : Nat) (xs : List E3) : Prop := xs.length = n ∧ ∀ j z, xs[j]? = some z → uE B j z
theorem UGood.app {B : List Int} {n : Nat} {xs : List E3} {z : E3} (h : UGood B n xs) (hz : uE B n z) : UGood B (n + 1) (xs ++ [z]) := by
  refine ⟨by rw [List.length_append, h.1]; rfl, fun j y hy => ?_⟩
  by_cases hj : j < xs.length
  · rw [List.getElem?_append_left hj] at hy
    exact h.2 j y hy
  · rw [List.getElem?_append_right (by omega)] at hy
    have hj0 : j - xs.length = 0 := by
      have := (List.getElem?_eq_some_iff.1 hy).1
      simp at this
      omega
    rw [hj0] at hy
    simp at hy
    subst hy
    rw [show j = n by have := h.1; omega]
    exact hz
/-- What GetUpdate answers. -/
def UGPost (B : List Int) (te t : TypeId) (w : World) (r : Ending) (w' : World) : Prop :=
  ∃ a n c xs, r = .returned (.tuple #[.agg #[.bool (decide (uEnd B = 0) && (uFull B == 1)), .slice a n c], .int .i64 (uEnd B)]) ∧ EOs w' te t w.heap.size (.slice a n c) xs ∧ (if uEnd B = 0 then UGood B (uK B) xs else xs = []) ∧ Below w.heap.size w w'
/-- GetUpdate, on its way. -/
structure UG (w : World) (R I H : Nat) (full : Bool) (v : Value) (xs : List E3) (l : List Int) (e : Int) (W : World) : Prop where
  i : InIs W I I l e
  r : Blk W R (.cells #[.bool false, .slice none 0 0] 45)
  h : Blk W H (.cells #[.bool full, v] 45)
  es : EOs W 76 70 (H + 1) v xs
  below : Below R w W
  ri : R < I
  ih : I < H
theorem UG.read {w W W' : World} {R I H : Nat} {full : Bool} {v : Value} {xs : List E3} {l l' : List Int} {e e' : Int} (h : UG w R I H full v xs l e W) (hs : InStep I I l' e' W W') : UG w R I H full v xs l' e' W' := by
  obtain ⟨h1, o, ho⟩ := hs
  have := h.ri
  have := h.ih
  exact ⟨h1, ho.keep h.r (by omega), ho.keep h.h (by omega), h.es.turn ho (by omega), h.below.trans (ho.below (by omega) (by have := h.r.lt; omega)), h.ri, h.ih⟩
theorem UG.more {w W W' : World} {R I H : Nat} {full : Bool} {v : Value} {xs : List E3} {l : List Int} {e : Int} (h : UG w R I H full v xs l e W) (hb : Below W.heap.size W W') : UG w R I H full v xs l e W' :=
  ⟨h.i.keep hb, h.r.keep hb, h.h.keep hb, h.es.keep hb, h.below.trans (hb.mono (Nat.le_of_lt h.r.lt)), h.ri, h.ih⟩
/-- An entry more. -/
theorem UG.app {w W w3 : World} {R I H : Nat} {full : Bool} {v v' : Value} {xs : List E3} {z : E3} {l : List Int} {e : Int} (h : UG w R I H full v xs l e W) (hz : EOw W 70 (H + 1) z)
    (ho : w3.ownsRow (H + 1) 76 22 v' (xs.length + 1) (ecs xs ++ ec z.1)) (hg : (W.alloc (.cells (ec z.1).toArray 76)).grownBy w3 v.ownBlock) : UG w R I H full v' (xs ++ [z]) l e (w3.setCell ⟨H, 1, none⟩ v') := by
  have hri := h.ri
  have hih := h.ih
  have hl := h.h.lt
  have hm' : Below W.heap.size W (W.alloc (.cells (ec z.1).toArray 76)) := Go.Proofs.Ytioeaknhcfkfcaa.more (Below.refl _ _) _
  have hes := h.es.keep hm'
  have hb : Below (H + 1) W w3 := below_row_grown (hm'.mono (by omega)) (by simp; omega) hes.v hg
  have hh := h.h.upto hb (by omega)
  have hT : Turn H (.cells #[.bool full, v'] 45) w3 (w3.setCell ⟨H, 1, none⟩ v') := ((Turn.same hh).set 1 v').as rfl
  have hr := h.r.upto hb (by omega)
  exact ⟨(h.i.upto hb (by omega)).turn hT (by omega) (by omega), hT.keep hr (by omega), hT.blk, (hes.app (hz.keep hm') (by decide) ho hg).turn hT (by omega), (h.below.trans (hb.mono (by omega))).trans (hT.below (by omega) (by have := hr.lt; omega)), hri, hih⟩
theorem nL_bytes {B : List Int} (hb : Bytes B) (s : Nat × Int) : Bytes (nL B s) := by
  unfold nL rsumP
  split
  · exact (hb.drop _).take _
  · intro x hx; simp at hx; omega
theorem rsumsP_bytes {B : List Int} (hb : Bytes B) (a : Nat) (e most : Int) : Bytes (rsumsP B a e most) := by
  unfold rsumsP
  split
  · exact (hb.drop _).take _
  · exact Bytes.nil
theorem nW_bytes {B : List Int} (hb : Bytes B) (s : Nat × Int) : Bytes (nW B s) := rsumsP_bytes hb _ _ _
theorem nP_bytes {B : List Int} (hb : Bytes B) (s : Nat × Int) : Bytes (nP B s) := rsumsP_bytes hb _ _ _
theorem EOs.base {W : World} {te t base base' : Nat} {v : Value} {xs : List E3} (h : EOs W te t base v xs) (hb : base' ≤ base) : EOs W te t base' v xs := ⟨ownsRow_base h.v hb, fun z hz => ⟨(h.e z hz).l, (h.e z hz).b, (h.e z hz).wl, (h.e z hz).pl, (h.e z hz).wn, (h.e z hz).pn, (h.e z hz).wb, (h.e z hz).pb, ownsRow_base (h.e z hz).wr hb, ownsRow_base (h.e z hz).pr hb⟩⟩
set_option maxRecDepth 100000 in
set_option maxHeartbeats 16000000 in
theorem getUpdate_any (M : Nat) (v : Value) (B : List Int) (w : World) (h : HoldsB w M v B) (hr : B.length ≤ 140737488351232) : Calls Try.prog 12 #[v] w (UGPost B 76 70 w) := by
  have HBB := Kp.mk h.bytes
  have H0 := Kp.mk h
  have HL := Kp.mk hr
  obtain ⟨va, vn, vc, rfl, -⟩ := h.slice
  obtain ⟨i0, hi, hz0, hz1, hz2⟩ := info_parts info115'
  obtain ⟨R, hR⟩ : ∃ R, R = w.heap.size := ⟨_, rfl⟩
  have HRe := Kp.mk hR
  clear h hr
  go_enter Try.func12, Try.ntmps12
  go_wp2_with fail
  rw [← hR]
  have K1 : Kp (Blk (w.alloc (.cells #[.bool false, .slice none 0 0] 45)) R (.cells #[.bool false, .slice none 0 0] 45)) := ⟨Blk.newAt _ hR⟩
  have K2 : Kp (Below R w (w.alloc (.cells #[.bool false, .slice none 0 0] 45))) := ⟨by rw [hR]; exact more (Below.refl _ _) _⟩
  have K3 : Kp (HoldsB (w.alloc (.cells #[.bool false, .slice none 0 0] 45)) M (.slice va vn vc) B) := ⟨H0.out.alloc _⟩
  clear hR H0
  generalize w.alloc (.cells #[.bool false, .slice none 0 0] 45) = w0 at *
  refine (takeI_any M _ B _ K3.out HL.out).mono ?_
  rintro r w1 ⟨I, rfl, hI, hi1, hb⟩
  have J1 := Kp.mk (K1.out.keep hb)
  have J2 : Kp (Below R w w1) := ⟨K2.out.trans (hb.mono (Nat.le_of_lt K1.out.lt))⟩
  have J3 := Kp.mk hi1
  have J4 : Kp (R < I) := ⟨Nat.lt_of_lt_of_le K1.out.lt hI⟩
  have R0 : Kp (Rel B 0 B 0) := ⟨⟨fun _ => rfl, fun h => absurd rfl h⟩⟩
  clear hI hi1 hb K1 K2 K3
  go_wp2_with fail
  refine (u8_any I I B 0 w1 J3.out).mono ?_
  rintro r w2 ⟨rfl, s1⟩
  obtain ⟨q1, q2, q3⟩ := R0.out.next 1
  rw [q1, show numOf (rawP B 0 0 1) = uFull B from rfl]
  rw [q2] at s1
  have E1 : Kp (InIs w2 I I (nextL B 0 1) (stp B 1 (0, 0)).2 ∧ Blk w2 R (.cells #[.bool false, .slice none 0 0] 45) ∧ Below R w w2 ∧ R < I) := ⟨s1.is, s1.keep J1.out (by have := J4.out; omega), by obtain ⟨_, o, ho⟩ := s1; exact J2.out.trans (ho.below (by have := J4.out; omega) (by have := J1.out.lt; omega)), J4.out⟩
  have R1 : Kp (Rel (nextL B 0 1) (stp B 1 (0, 0)).2 B (stp B 1 (0, 0)).1) := ⟨q3⟩
  have hf0 : 0 ≤ uFull B ∧ uFull B ≤ 255 := num1 HBB.out 0 0
  have HU1 : Kp (us1 B = ((stp B 1 (0, 0)).1, if 1 < uFull B then failE (stp B 1 (0, 0)).2 10 else (stp B 1 (0, 0)).2)) := ⟨rfl⟩
  obtain ⟨fu, hfu⟩ : ∃ fu, fu = uFull B := ⟨_, rfl⟩
  have HFU := Kp.mk hfu
  rw [← hfu] at hf0 HU1 ⊢
  clear s1 q1 q2 q3 R0 J1 J2 J3 J4 hfu
  generalize nextL B 0 1 = l0 at *
  obtain ⟨fl, hfl⟩ : ∃ fl, fl = (fu == 1) := ⟨_, rfl⟩
  have HFL : Kp (fl = (uFull B == 1)) := ⟨by rw [hfl, HFU.out]⟩
  have hq : (fu == 1) = fl := hfl.symm
  clear hfl
  by_cases h1 : 1 < fu
  · have HU2 : Kp (us1 B = ((stp B 1 (0, 0)).1, failE (stp B 1 (0, 0)).2 10)) := ⟨by rw [HU1.out, if_pos h1]⟩
    go_wp2_with fail
    refine (fail_any I I l0 _ 10 w2 E1.out.1).mono ?_
    rintro r w3 ⟨rfl, s3⟩
    have E2 : Kp (InIs w3 I I (failL l0 (stp B 1 (0, 0)).2 10) (us1 B).2 ∧ Blk w3 R (.cells #[.bool false, .slice none 0 0] 45) ∧ Below R w w3 ∧ R < I) := ⟨by rw [HU2.out]; exact s3.is, s3.keep E1.out.2.1 (by have := E1.out.2.2.2; omega), by obtain ⟨_, o, ho⟩ := s3; exact E1.out.2.2.1.trans (ho.below (by have := E1.out.2.2.2; omega) (by have := E1.out.2.1.lt; omega)), E1.out.2.2.2⟩
    have R2 : Kp (Rel (failL l0 (stp B 1 (0, 0)).2 10) (us1 B).2 B (us1 B).1) := ⟨by rw [HU2.out]; exact R1.out.fail 10⟩
    clear s3 HU1 HU2 E1 R1 h1
    generalize failL l0 (stp B 1 (0, 0)).2 10 = l1 at *
    obtain ⟨H, hH⟩ : ∃ H, H = w3.heap.size := ⟨_, rfl⟩
    have HHe := Kp.mk hH
    have LI : Kp (I < w3.heap.size) := ⟨E2.out.1.lt⟩
    clear hH
    go_wp2_with (refine wpList_store_row rfl 45 (.tmp 6) (.tmp 20) rfl w3.heap.size #[.bool fl, .slice none 0 0] rfl rfl 45 _ (Blk.newAt _ rfl) info57s rfl (u_one _ _ _ _) ?_; rw [← HHe.out]; refine wpl_world (w := (w3.alloc (.cells #[.bool false, .slice none 0 0] 45)).setRow H #[.bool fl, .slice none 0 0]) (fun W => UG w R I H fl (.slice none 0 0) [] l1 (us1 B).2 W) ⟨(E2.out.1.keep (more (Below.refl _ _) _)).turn (Turn.ofRow (Blk.newAt _ HHe.out) _) (by have := LI.out; have := HHe.out; omega) (by have := LI.out; have := HHe.out; omega), (Turn.ofRow (Blk.newAt _ HHe.out) _).keep (E2.out.2.1.old _) (by have := LI.out; have := E2.out.2.2.2; have := HHe.out; omega), (Turn.ofRow (Blk.newAt _ HHe.out) _).blk, ⟨World.ownsRow_nil _ _ _ _, fun z hz => by cases hz⟩, (E2.out.2.2.1.alloc (by have := E2.out.2.1.lt; omega) _).trans ((Turn.ofRow (Blk.newAt _ HHe.out) _).below (by have := LI.out; have := E2.out.2.2.2; have := HHe.out; omega) (by have := E2.out.2.1.lt; simp; omega)), E2.out.2.2.2, by rw [HHe.out]; exact LI.out⟩ ?_; rintro W4 hst; have S1 := Kp.mk hst; clear hst)
    refine (umany_any I l1 B (us1 B).1 (us1 B).2 W4 S1.out.i R2.out HBB.out).mono ?_
    rintro r w5 ⟨rfl, l3, s3, r3⟩
    rw [show numOf (rawP B (us1 B).1 (us1 B).2 1) = uN B from rfl]
    have S3 : Kp (UG w R I H fl (.slice none 0 0) [] l3 (uT B 0).1.2 w5) := ⟨S1.out.read s3⟩
    have R3 : Kp (Rel l3 (uT B 0).1.2 B (uT B 0).1.1) := ⟨r3⟩
    have hN := num1 HBB.out (us1 B).1 (us1 B).2
    rw [show numOf (rawP B (us1 B).1 (us1 B).2 1) = uN B from rfl] at hN
    have hk : (if 8 < uN B then 0 else uN B) = (uK B : Int) := by
      unfold uK
      split <;> omega
    rw [hk]
    have HK8 : Kp (uK B ≤ 8) := ⟨by unfold uK; split <;> omega⟩
    obtain ⟨k, hke⟩ : ∃ k, k = uK B := ⟨_, rfl⟩
    rw [← hke] at HK8 ⊢
    have HKE := Kp.mk hke
    have hk8 : k ≤ 8 := HK8.out
    clear s3 r3 hk hke hN S1 E2 R2
    go_wp2_with fail
    go_loopw [7, 23] (fun lv ct wr => ∃ (i : Nat) (av : Option Addr) (nv cv : Nat) (xs : List E3) (l : List Int), i ≤ k ∧ lv = .int .i64 (uT B i).2 ∧ ct = .int .i64 i ∧ Kp (UG w R I H fl (.slice av nv cv) xs l (uT B i).1.2 wr ∧ Rel l (uT B i).1.2 B (uT B i).1.1 ∧ UGood B i xs)) (fun _ ct _ => k - (intOf ct).toNat)
    case atStart => exact ⟨0, none, 0, 0, [], l3, by omega, rfl, rfl, ⟨S3.out, R3.out, rfl, fun j z hz => by simp at hz⟩⟩
    case round =>
      obtain ⟨i, av, nv, cv, xs, l, hi', rfl, rfl, HST⟩ := hrel
      by_cases hlt : i < k
      · go_wp2_with fail
        refine (getEntry_any I l B (uT B i).1 wr HST.out.1.i HST.out.2.1 HBB.out).mono ?_
        rintro r w6 ⟨x, rfl, hx, hxw, hxp, l6, s6, r6⟩
        have HXD : Kp (x.d = nD B (uT B i).1) := ⟨hx.1⟩
        have HXL : Kp (x.lf.length = 16) := ⟨by rw [hx.2.2.2.2]; exact nL_len _ _⟩
        have HXS : Kp (UGood B i xs) := ⟨HST.out.2.2⟩
        have HUE : Kp (uE B i (x, nW B (uT B i).1, nP B (uT B i).1)) := ⟨hx, rfl, rfl⟩
        have HFS : Kp (∀ last, (if folB last x = true then (gs7 B (uT B i).1).2 else failE (gs7 B (uT B i).1).2 10) = if uFol B last (uT B i).1 = true then (gs7 B (uT B i).1).2 else failE (gs7 B (uT B i).1).2 10) := ⟨fun last => fol_same ⟨hx.1, hx.2.1, hx.2.2.1, hx.2.2.2.1⟩ hxw.1 hxp.1⟩
        have HWN : Kp (x.wn ≤ 65535 ∧ x.pn ≤ 65535) := ⟨hxw.2.1, hxp.2.1⟩
        have LH : Kp (H + 1 ≤ wr.heap.size) := ⟨HST.out.1.h.lt⟩
        have HEO : Kp (EOw w6 70 (H + 1) (x, nW B (uT B i).1, nP B (uT B i).1)) := ⟨⟨HXL.out, by rw [show (x, nW B (uT B i).1, nP B (uT B i).1).1 = x from rfl, hx.2.2.2.2]; exact nL_bytes HBB.out _, hxw.1, hxp.1, hxw.2.1, hxp.2.1, nW_bytes HBB.out _, nP_bytes HBB.out _, ownsRow_base hxw.2.2 LH.out, ownsRow_base hxp.2.2 LH.out⟩⟩
        have S6 := Kp.mk (HST.out.1.read s6)
        have R6 := Kp.mk r6
        have HIX := Kp.mk (info115s HXL.out)
        have HSZ : Kp ((ec x).toArray.size = 22) := ⟨by rw [List.size_toArray]; exact ec_len HXL.out⟩
        obtain ⟨T8, hT8⟩ : ∃ T, T = w6.heap.size := ⟨_, rfl⟩
        have HT8 := Kp.mk hT8
        have LH8 : Kp (H < T8) := ⟨by rw [hT8]; exact S6.out.h.lt⟩
        clear hx hxw hxp s6 r6 HST hT8
        go_wp2_with (first
          | (refine wpList_store_row rfl 76 (.tmp 8) (.tmp 26) rfl w6.heap.size (ec x).toArray rfl rfl 76 _ (Blk.newAt _ rfl) HIX.out (by rw [HSZ.out]; rfl) (ec_one x) ?_; rw [← HT8.out]; refine wpl_world (fun W => UG w R I H fl (.slice av nv cv) xs l6 (gs7 B (uT B i).1).2 W ∧ Blk W T8 (.cells (ec x).toArray 76) ∧ EOw W 70 (H + 1) (x, nW B (uT B i).1, nP B (uT B i).1)) ⟨by rw [HT8.out, World.setRow_alloc_new]; exact S6.out.more (more (Below.refl _ _) _), by rw [HT8.out, World.setRow_alloc_new]; exact Blk.new _ _, by rw [HT8.out, World.setRow_alloc_new]; exact HEO.out.keep (more (Below.refl _ _) _)⟩ ?_; rintro W6 h6; have S6' := Kp.mk h6; clear h6)
          | (refine wpList_load_row rfl 76 (.tmp 8) rfl T8 rfl 76 (ec x).toArray (0, 0) _ S6'.out.2.1 Try.underlying76 rfl HIX.out ?_))
        clear S6 HEO
        refine (follows_any (uT B i).2 x _ HXL.out (by have := HWN.out; omega) (by have := HWN.out; omega)).mono ?_
        rintro r w7 ⟨rfl, hb⟩
        have S6 : Kp (UG w R I H fl (.slice av nv cv) xs l6 (gs7 B (uT B i).1).2 w7 ∧ Blk w7 T8 (.cells (ec x).toArray 76) ∧ EOw w7 70 (H + 1) (x, nW B (uT B i).1, nP B (uT B i).1)) := ⟨S6'.out.1.more hb, S6'.out.2.1.keep hb, S6'.out.2.2.keep hb⟩
        have HTT : Kp ((uT B (i + 1)).1 = ((gs7 B (uT B i).1).1, if folB (uT B i).2 x = true then (gs7 B (uT B i).1).2 else failE (gs7 B (uT B i).1).2 10)) := ⟨by rw [HFS.out]; rfl⟩
        clear hb S6' HFS
        cases hf : folB (uT B i).2 x with
        | true =>
          have HT1 : Kp ((uT B (i + 1)).1 = gs7 B (uT B i).1) := ⟨by rw [HTT.out, hf]; rfl⟩
          have S7 := S6
          have R7 := R6
          clear hf HTT S6 R6
          generalize w7 = W7 at *
          generalize l6 = L7 at *
          have c0 : W7.cell? ⟨T8, 0, none⟩ = some (.int .i64 x.d) := S7.out.2.1.cell 0
          have d1 : W7.cell? ⟨H, 1, none⟩ = some (.slice av nv cv) := S7.out.1.h.cell 1
          go_wp2_with (first
            | (refine wpList_load_row rfl 76 (.tmp 8) rfl T8 rfl 76 (ec x).toArray (0, 0) _ S7.out.2.1 Try.underlying76 rfl HIX.out ?_)
            | (refine wpList_buildSlice_one rfl 36 1 (.tmp 37) rfl (ecV x) rfl _ _ (build55e HXL.out W7) ?_)
            | (at_builtin; refine wpList_append_lies _ rfl (.tmp 36) (.tmp 38) 36 rfl (H + 1) 76 i0 (.agg (ec x0).toArray) 22 88 Try.underlying36 hi hz0 hz1 hz2 rfl (by decide) (.slice av nv cv) xs.length (ecs xs) rfl (S7.out.1.es.keep (more (Below.refl _ _) _)).v ⟨W7.heap.size, 0, none⟩ 1 1 (ec x) rfl ?e0 ?e1 ?e2 (by decide) ?e3 ?e4 ?e5 (W7.heap.size + 1) ?e6 ?_))
          case e0 => rw [ec_len HXL.out]
          case e1 => exact World.news_of_block (Blk.new W7 (.cells (ec x).toArray 76))
          case e2 => exact fun u hu => List.all_eq_true.1 (by simpa using ec_one x) u hu
          case e3 => have := HXS.out.1; have := HK8.out; unfold maxLen; omega
          case e4 => have := HXS.out.1; have := HK8.out; omega
          case e5 => have := S7.out.1.h.lt; simp; omega
          case e6 => simp
          intro g capN w8 ho hg hv hlt9
          have HH8 : Kp (Blk w8 H (.cells #[.bool fl, .slice av nv cv] 45)) := ⟨S7.out.1.h.upto (below_row_grown (B := H + 1) ((more (Below.refl _ _) _).mono (by have := S7.out.1.h.lt; omega)) (by have := S7.out.1.h.lt; simp; omega) (S7.out.1.es.keep (more (Below.refl _ _) _)).v hg) (by omega)⟩
          have S8 := Kp.mk (S7.out.1.app S7.out.2.2 ho hg)
          clear ho hg hv hlt9 c0 d1
          have d1 : w8.cell? ⟨H, 1, none⟩ = some (.slice av nv cv) := HH8.out.cell 1
          have f1 := HH8.out.frozen 1
          clear S7 HH8
          go_wp2_with fail
          exact ⟨⟨i + 1, _, _, _, xs ++ [(x, nW B (uT B i).1, nP B (uT B i).1)], L7, by omega, by rw [HXD.out]; rfl, by go_num, ⟨by rw [HT1.out]; exact S8.out, by rw [HT1.out]; exact R7.out, UGood.app HXS.out HUE.out⟩⟩, by simp [intOf]; omega⟩
        | false =>
          have HT1 : Kp ((uT B (i + 1)).1 = ((gs7 B (uT B i).1).1, failE (gs7 B (uT B i).1).2 10)) := ⟨by rw [HTT.out, hf]; rfl⟩
          clear hf HTT
          go_wp2_with fail
          refine (fail_any I I l6 _ 10 w7 S6.out.1.i).mono ?_
          rintro r W7 ⟨rfl, s7⟩
          have LT8 : Kp (I < T8 ∧ I < H + 1) := ⟨by have := S6.out.1.ih; have := LH8.out; omega, by have := S6.out.1.ih; omega⟩
          have S7 : Kp (UG w R I H fl (.slice av nv cv) xs (failL l6 (gs7 B (uT B i).1).2 10) (failE (gs7 B (uT B i).1).2 10) W7 ∧ Blk W7 T8 (.cells (ec x).toArray 76) ∧ EOw W7 70 (H + 1) (x, nW B (uT B i).1, nP B (uT B i).1)) := ⟨S6.out.1.read s7, s7.keep S6.out.2.1 (by have := LT8.out; omega), by obtain ⟨_, o, ho⟩ := s7; exact S6.out.2.2.turn ho LT8.out.2⟩
          have R7 := Kp.mk (R6.out.fail 10)
          clear s7 S6 R6 LT8
          generalize failL l6 (gs7 B (uT B i).1).2 10 = L7 at *
          have c0 : W7.cell? ⟨T8, 0, none⟩ = some (.int .i64 x.d) := S7.out.2.1.cell 0
          have d1 : W7.cell? ⟨H, 1, none⟩ = some (.slice av nv cv) := S7.out.1.h.cell 1
          go_wp2_with (first
            | (refine wpList_load_row rfl 76 (.tmp 8) rfl T8 rfl 76 (ec x).toArray (0, 0) _ S7.out.2.1 Try.underlying76 rfl HIX.out ?_)
            | (refine wpList_buildSlice_one rfl 36 1 (.tmp 37) rfl (ecV x) rfl _ _ (build55e HXL.out W7) ?_)
            | (at_builtin; refine wpList_append_lies _ rfl (.tmp 36) (.tmp 38) 36 rfl (H + 1) 76 i0 (.agg (ec x0).toArray) 22 88 Try.underlying36 hi hz0 hz1 hz2 rfl (by decide) (.slice av nv cv) xs.length (ecs xs) rfl (S7.out.1.es.keep (more (Below.refl _ _) _)).v ⟨W7.heap.size, 0, none⟩ 1 1 (ec x) rfl ?e0 ?e1 ?e2 (by decide) ?e3 ?e4 ?e5 (W7.heap.size + 1) ?e6 ?_))
          case e0 => rw [ec_len HXL.out]
          case e1 => exact World.news_of_block (Blk.new W7 (.cells (ec x).toArray 76))
          case e2 => exact fun u hu => List.all_eq_true.1 (by simpa using ec_one x) u hu
          case e3 => have := HXS.out.1; have := HK8.out; unfold maxLen; omega
          case e4 => have := HXS.out.1; have := HK8.out; omega
          case e5 => have := S7.out.1.h.lt; simp; omega
          case e6 => simp
          intro g capN w8 ho hg hv hlt9
          have HH8 : Kp (Blk w8 H (.cells #[.bool fl, .slice av nv cv] 45)) := ⟨S7.out.1.h.upto (below_row_grown (B := H + 1) ((more (Below.refl _ _) _).mono (by have := S7.out.1.h.lt; omega)) (by have := S7.out.1.h.lt; simp; omega) (S7.out.1.es.keep (more (Below.refl _ _) _)).v hg) (by omega)⟩
          have S8 := Kp.mk (S7.out.1.app S7.out.2.2 ho hg)
          clear ho hg hv hlt9 c0 d1
          have d1 : w8.cell? ⟨H, 1, none⟩ = some (.slice av nv cv) := HH8.out.cell 1
          have f1 := HH8.out.frozen 1
          clear S7 HH8
          go_wp2_with fail
          exact ⟨⟨i + 1, _, _, _, xs ++ [(x, nW B (uT B i).1, nP B (uT B i).1)], L7, by omega, by rw [HXD.out]; rfl, by go_num, ⟨by rw [HT1.out]; exact S8.out, by rw [HT1.out]; exact R7.out, UGood.app HXS.out HUE.out⟩⟩, by simp [intOf]; omega⟩
      · obtain rfl : i = k := by omega
        have HWK : Kp (uT B i = uT B (uK B)) := ⟨by rw [HKE.out]⟩
        have HGD : Kp (UGood B (uK B) xs) := ⟨by have := HST.out.2.2; rw [HKE.out] at this; exact this⟩
        go_wp2_with fail
        refine (endI_any I I l _ wr HST.out.1.i).mono ?_
        rintro r w5 ⟨rfl, l5, s5⟩
        rw [uend_is HST.out.2.1, HWK.out, show (if 0 < rleft B (uT B (uK B)).1.1 (uT B (uK B)).1.2 then 10 else (uT B (uK B)).1.2) = uEnd B from rfl]
        have S5 := Kp.mk (HST.out.1.read s5)
        clear s5 HST
        by_cases he : uEnd B = 0
        · have HGE := Kp.mk he
          rw [he]
          clear he
          go_wp2_with (first
            | (refine wpList_load_row rfl 45 (.tmp 6) rfl H rfl 45 #[.bool fl, .slice av nv cv] (0, 0) _ S5.out.h Try.underlying45 rfl info57s ?_)
            | (refine wpList_store_row rfl 45 (.tmp 2) (.tmp 48) rfl R #[.bool fl, .slice av nv cv] rfl rfl 45 _ S5.out.r info57s rfl (u_one _ _ _ _) ?_; refine wpl_world (w := w5.setRow R #[.bool fl, .slice av nv cv]) (fun W => Blk W R (.cells #[.bool fl, .slice av nv cv] 45) ∧ EOs W 76 70 (H + 1) (.slice av nv cv) xs ∧ Below R w W) ⟨(Turn.ofRow S5.out.r _).blk, S5.out.es.turn (Turn.ofRow S5.out.r _) (by have := S5.out.ri; have := S5.out.ih; omega), S5.out.below.trans ((Turn.ofRow S5.out.r _).below (Nat.le_refl _) (by have := S5.out.r.lt; omega))⟩ ?_; rintro W6 h6; have S6 := Kp.mk h6; clear h6))
          exact bodyPost_ret (results_row_tmpU rfl _ _ R 45 _ _ _ (.int .i64 0) rfl rfl S6.out.1 Try.underlying45 rfl info57s) rfl ⟨av, nv, cv, xs, by rw [HGE.out, HFL.out]; rfl, EOs.base S6.out.2.1 (by have := HRe.out; have := S5.out.ri; have := S5.out.ih; omega), by rw [if_pos HGE.out]; exact HGD.out, by rw [← HRe.out]; exact S6.out.2.2⟩
        · have HGE := Kp.mk he
          have hne : (uEnd B != 0) = true := by simpa using he
          obtain ⟨E, hE⟩ : ∃ E, E = uEnd B := ⟨_, rfl⟩
          have HE := Kp.mk hE
          rw [← hE] at hne ⊢
          clear he hE
          go_wp2_with (refine wpList_store_row rfl 45 (.tmp 2) (.tmp 46) rfl R #[.bool false, .slice none 0 0] rfl rfl 45 _ S5.out.r info57s rfl (u_one _ _ _ _) ?_; refine wpl_world (w := w5.setRow R #[.bool false, .slice none 0 0]) (fun W => Blk W R (.cells #[.bool false, .slice none 0 0] 45) ∧ Below R w W) ⟨(Turn.ofRow S5.out.r _).blk, S5.out.below.trans ((Turn.ofRow S5.out.r _).below (Nat.le_refl _) (by have := S5.out.r.lt; omega))⟩ ?_; rintro W6 h6; have S6 := Kp.mk h6; clear h6)
          exact bodyPost_ret (results_row_tmpU rfl _ _ R 45 _ _ _ (.int .i64 E) rfl rfl S6.out.1 Try.underlying45 rfl info57s) rfl ⟨none, 0, 0, [], by rw [decide_eq_false HGE.out, HE.out]; rfl, ⟨World.ownsRow_nil _ _ _ _, fun z hz => by cases hz⟩, by rw [if_neg HGE.out], by rw [← HRe.out]; exact S6.out.2⟩
  · have HU2 : Kp (us1 B = stp B 1 (0, 0)) := ⟨by rw [HU1.out, if_neg h1]⟩
    have E2 : Kp (InIs w2 I I l0 (us1 B).2 ∧ Blk w2 R (.cells #[.bool false, .slice none 0 0] 45) ∧ Below R w w2 ∧ R < I) := ⟨by rw [HU2.out]; exact E1.out.1, E1.out.2.1, E1.out.2.2.1, E1.out.2.2.2⟩
    have R2 : Kp (Rel l0 (us1 B).2 B (us1 B).1) := ⟨by rw [HU2.out]; exact R1.out⟩
    have h1' : ¬ (1 : Int) < fu := h1
    clear HU1 HU2 E1 R1
    generalize w2 = w3 at *
    generalize l0 = l1 at *
    obtain ⟨H, hH⟩ : ∃ H, H = w3.heap.size := ⟨_, rfl⟩
    have HHe := Kp.mk hH
    have LI : Kp (I < w3.heap.size) := ⟨E2.out.1.lt⟩
    clear hH
    go_wp2_with (refine wpList_store_row rfl 45 (.tmp 6) (.tmp 20) rfl w3.heap.size #[.bool fl, .slice none 0 0] rfl rfl 45 _ (Blk.newAt _ rfl) info57s rfl (u_one _ _ _ _) ?_; rw [← HHe.out]; refine wpl_world (w := (w3.alloc (.cells #[.bool false, .slice none 0 0] 45)).setRow H #[.bool fl, .slice none 0 0]) (fun W => UG w R I H fl (.slice none 0 0) [] l1 (us1 B).2 W) ⟨(E2.out.1.keep (more (Below.refl _ _) _)).turn (Turn.ofRow (Blk.newAt _ HHe.out) _) (by have := LI.out; have := HHe.out; omega) (by have := LI.out; have := HHe.out; omega), (Turn.ofRow (Blk.newAt _ HHe.out) _).keep (E2.out.2.1.old _) (by have := LI.out; have := E2.out.2.2.2; have := HHe.out; omega), (Turn.ofRow (Blk.newAt _ HHe.out) _).blk, ⟨World.ownsRow_nil _ _ _ _, fun z hz => by cases hz⟩, (E2.out.2.2.1.alloc (by have := E2.out.2.1.lt; omega) _).trans ((Turn.ofRow (Blk.newAt _ HHe.out) _).below (by have := LI.out; have := E2.out.2.2.2; have := HHe.out; omega) (by have := E2.out.2.1.lt; simp; omega)), E2.out.2.2.2, by rw [HHe.out]; exact LI.out⟩ ?_; rintro W4 hst; have S1 := Kp.mk hst; clear hst)
    refine (umany_any I l1 B (us1 B).1 (us1 B).2 W4 S1.out.i R2.out HBB.out).mono ?_
    rintro r w5 ⟨rfl, l3, s3, r3⟩
    rw [show numOf (rawP B (us1 B).1 (us1 B).2 1) = uN B from rfl]
    have S3 : Kp (UG w R I H fl (.slice none 0 0) [] l3 (uT B 0).1.2 w5) := ⟨S1.out.read s3⟩
    have R3 : Kp (Rel l3 (uT B 0).1.2 B (uT B 0).1.1) := ⟨r3⟩
    have hN := num1 HBB.out (us1 B).1 (us1 B).2
    rw [show numOf (rawP B (us1 B).1 (us1 B).2 1) = uN B from rfl] at hN
    have hk : (if 8 < uN B then 0 else uN B) = (uK B : Int) := by
      unfold uK
      split <;> omega
    rw [hk]
    have HK8 : Kp (uK B ≤ 8) := ⟨by unfold uK; split <;> omega⟩
    obtain ⟨k, hke⟩ : ∃ k, k = uK B := ⟨_, rfl⟩
    rw [← hke] at HK8 ⊢
    have HKE := Kp.mk hke
    have hk8 : k ≤ 8 := HK8.out
    clear s3 r3 hk hke hN S1 E2 R2
    go_wp2_with fail
    go_loopw [7, 23] (fun lv ct wr => ∃ (i : Nat) (av : Option Addr) (nv cv : Nat) (xs : List E3) (l : List Int), i ≤ k ∧ lv = .int .i64 (uT B i).2 ∧ ct = .int .i64 i ∧ Kp (UG w R I H fl (.slice av nv cv) xs l (uT B i).1.2 wr ∧ Rel l (uT B i).1.2 B (uT B i).1.1 ∧ UGood B i xs)) (fun _ ct _ => k - (intOf ct).toNat)
    case atStart => exact ⟨0, none, 0, 0, [], l3, by omega, rfl, rfl, ⟨S3.out, R3.out, rfl, fun j z hz => by simp at hz⟩⟩
    case round =>
      obtain ⟨i, av, nv, cv, xs, l, hi', rfl, rfl, HST⟩ := hrel
      by_cases hlt : i < k
      · go_wp2_with fail
        refine (getEntry_any I l B (uT B i).1 wr HST.out.1.i HST.out.2.1 HBB.out).mono ?_
        rintro r w6 ⟨x, rfl, hx, hxw, hxp, l6, s6, r6⟩
        have HXD : Kp (x.d = nD B (uT B i).1) := ⟨hx.1⟩
        have HXL : Kp (x.lf.length = 16) := ⟨by rw [hx.2.2.2.2]; exact nL_len _ _⟩
        have HXS : Kp (UGood B i xs) := ⟨HST.out.2.2⟩
        have HUE : Kp (uE B i (x, nW B (uT B i).1, nP B (uT B i).1)) := ⟨hx, rfl, rfl⟩
        have HFS : Kp (∀ last, (if folB last x = true then (gs7 B (uT B i).1).2 else failE (gs7 B (uT B i).1).2 10) = if uFol B last (uT B i).1 = true then (gs7 B (uT B i).1).2 else failE (gs7 B (uT B i).1).2 10) := ⟨fun last => fol_same ⟨hx.1, hx.2.1, hx.2.2.1, hx.2.2.2.1⟩ hxw.1 hxp.1⟩
        have HWN : Kp (x.wn ≤ 65535 ∧ x.pn ≤ 65535) := ⟨hxw.2.1, hxp.2.1⟩
        have LH : Kp (H + 1 ≤ wr.heap.size) := ⟨HST.out.1.h.lt⟩
        have HEO : Kp (EOw w6 70 (H + 1) (x, nW B (uT B i).1, nP B (uT B i).1)) := ⟨⟨HXL.out, by rw [show (x, nW B (uT B i).1, nP B (uT B i).1).1 = x from rfl, hx.2.2.2.2]; exact nL_bytes HBB.out _, hxw.1, hxp.1, hxw.2.1, hxp.2.1, nW_bytes HBB.out _, nP_bytes HBB.out _, ownsRow_base hxw.2.2 LH.out, ownsRow_base hxp.2.2 LH.out⟩⟩
        have S6 := Kp.mk (HST.out.1.read s6)
        have R6 := Kp.mk r6
        have HIX := Kp.mk (info115s HXL.out)
        have HSZ : Kp ((ec x).toArray.size = 22) := ⟨by rw [List.size_toArray]; exact ec_len HXL.out⟩
        obtain ⟨T8, hT8⟩ : ∃ T, T = w6.heap.size := ⟨_, rfl⟩
        have HT8 := Kp.mk hT8
        have LH8 : Kp (H < T8) := ⟨by rw [hT8]; exact S6.out.h.lt⟩
        clear hx hxw hxp s6 r6 HST hT8
        go_wp2_with (first
          | (refine wpList_store_row rfl 76 (.tmp 8) (.tmp 26) rfl w6.heap.size (ec x).toArray rfl rfl 76 _ (Blk.newAt _ rfl) HIX.out (by rw [HSZ.out]; rfl) (ec_one x) ?_; rw [← HT8.out]; refine wpl_world (fun W => UG w R I H fl (.slice av nv cv) xs l6 (gs7 B (uT B i).1).2 W ∧ Blk W T8 (.cells (ec x).toArray 76) ∧ EOw W 70 (H + 1) (x, nW B (uT B i).1, nP B (uT B i).1)) ⟨by rw [HT8.out, World.setRow_alloc_new]; exact S6.out.more (more (Below.refl _ _) _), by rw [HT8.out, World.setRow_alloc_new]; exact Blk.new _ _, by rw [HT8.out, World.setRow_alloc_new]; exact HEO.out.keep (more (Below.refl _ _) _)⟩ ?_; rintro W6 h6; have S6' := Kp.mk h6; clear h6)
          | (refine wpList_load_row rfl 76 (.tmp 8) rfl T8 rfl 76 (ec x).toArray (0, 0) _ S6'.out.2.1 Try.underlying76 rfl HIX.out ?_))
        clear S6 HEO
        refine (follows_any (uT B i).2 x _ HXL.out (by have := HWN.out; omega) (by have := HWN.out; omega)).mono ?_
        rintro r w7 ⟨rfl, hb⟩
        have S6 : Kp (UG w R I H fl (.slice av nv cv) xs l6 (gs7 B (uT B i).1).2 w7 ∧ Blk w7 T8 (.cells (ec x).toArray 76) ∧ EOw w7 70 (H + 1) (x, nW B (uT B i).1, nP B (uT B i).1)) := ⟨S6'.out.1.more hb, S6'.out.2.1.keep hb, S6'.out.2.2.keep hb⟩
        have HTT : Kp ((uT B (i + 1)).1 = ((gs7 B (uT B i).1).1, if folB (uT B i).2 x = true then (gs7 B (uT B i).1).2 else failE (gs7 B (uT B i).1).2 10)) := ⟨by rw [HFS.out]; rfl⟩
        clear hb S6' HFS
        cases hf : folB (uT B i).2 x with
        | true =>
          have HT1 : Kp ((uT B (i + 1)).1 = gs7 B (uT B i).1) := ⟨by rw [HTT.out, hf]; rfl⟩
          have S7 := S6
          have R7 := R6
          clear hf HTT S6 R6
          generalize w7 = W7 at *
          generalize l6 = L7 at *
          have c0 : W7.cell? ⟨T8, 0, none⟩ = some (.int .i64 x.d) := S7.out.2.1.cell 0
          have d1 : W7.cell? ⟨H, 1, none⟩ = some (.slice av nv cv) := S7.out.1.h.cell 1
          go_wp2_with (first
            | (refine wpList_load_row rfl 76 (.tmp 8) rfl T8 rfl 76 (ec x).toArray (0, 0) _ S7.out.2.1 Try.underlying76 rfl HIX.out ?_)
            | (refine wpList_buildSlice_one rfl 36 1 (.tmp 37) rfl (ecV x) rfl _ _ (build55e HXL.out W7) ?_)
            | (at_builtin; refine wpList_append_lies _ rfl (.tmp 36) (.tmp 38) 36 rfl (H + 1) 76 i0 (.agg (ec x0).toArray) 22 88 Try.underlying36 hi hz0 hz1 hz2 rfl (by decide) (.slice av nv cv) xs.length (ecs xs) rfl (S7.out.1.es.keep (more (Below.refl _ _) _)).v ⟨W7.heap.size, 0, none⟩ 1 1 (ec x) rfl ?e0 ?e1 ?e2 (by decide) ?e3 ?e4 ?e5 (W7.heap.size + 1) ?e6 ?_))
          case e0 => rw [ec_len HXL.out]
          case e1 => exact World.news_of_block (Blk.new W7 (.cells (ec x).toArray 76))
          case e2 => exact fun u hu => List.all_eq_true.1 (by simpa using ec_one x) u hu
          case e3 => have := HXS.out.1; have := HK8.out; unfold maxLen; omega
          case e4 => have := HXS.out.1; have := HK8.out; omega
          case e5 => have := S7.out.1.h.lt; simp; omega
          case e6 => simp
          intro g capN w8 ho hg hv hlt9
          have HH8 : Kp (Blk w8 H (.cells #[.bool fl, .slice av nv cv] 45)) := ⟨S7.out.1.h.upto (below_row_grown (B := H + 1) ((more (Below.refl _ _) _).mono (by have := S7.out.1.h.lt; omega)) (by have := S7.out.1.h.lt; simp; omega) (S7.out.1.es.keep (more (Below.refl _ _) _)).v hg) (by omega)⟩
          have S8 := Kp.mk (S7.out.1.app S7.out.2.2 ho hg)
          clear ho hg hv hlt9 c0 d1
          have d1 : w8.cell? ⟨H, 1, none⟩ = some (.slice av nv cv) := HH8.out.cell 1
          have f1 := HH8.out.frozen 1
          clear S7 HH8
          go_wp2_with fail
          exact ⟨⟨i + 1, _, _, _, xs ++ [(x, nW B (uT B i).1, nP B (uT B i).1)], L7, by omega, by rw [HXD.out]; rfl, by go_num, ⟨by rw [HT1.out]; exact S8.out, by rw [HT1.out]; exact R7.out, UGood.app HXS.out HUE.out⟩⟩, by simp [intOf]; omega⟩
        | false =>
          have HT1 : Kp ((uT B (i + 1)).1 = ((gs7 B (uT B i).1).1, failE (gs7 B (uT B i).1).2 10)) := ⟨by rw [HTT.out, hf]; rfl⟩
          clear hf HTT
          go_wp2_with fail
          refine (fail_any I I l6 _ 10 w7 S6.out.1.i).mono ?_
          rintro r W7 ⟨rfl, s7⟩
          have LT8 : Kp (I < T8 ∧ I < H + 1) := ⟨by have := S6.out.1.ih; have := LH8.out; omega, by have := S6.out.1.ih; omega⟩
          have S7 : Kp (UG w R I H fl (.slice av nv cv) xs (failL l6 (gs7 B (uT B i).1).2 10) (failE (gs7 B (uT B i).1).2 10) W7 ∧ Blk W7 T8 (.cells (ec x).toArray 76) ∧ EOw W7 70 (H + 1) (x, nW B (uT B i).1, nP B (uT B i).1)) := ⟨S6.out.1.read s7, s7.keep S6.out.2.1 (by have := LT8.out; omega), by obtain ⟨_, o, ho⟩ := s7; exact S6.out.2.2.turn ho LT8.out.2⟩
          have R7 := Kp.mk (R6.out.fail 10)
          clear s7 S6 R6 LT8
          generalize failL l6 (gs7 B (uT B i).1).2 10 = L7 at *
          have c0 : W7.cell? ⟨T8, 0, none⟩ = some (.int .i64 x.d) := S7.out.2.1.cell 0
          have d1 : W7.cell? ⟨H, 1, none⟩ = some (.slice av nv cv) := S7.out.1.h.cell 1
          go_wp2_with (first
            | (refine wpList_load_row rfl 76 (.tmp 8) rfl T8 rfl 76 (ec x).toArray (0, 0) _ S7.out.2.1 Try.underlying76 rfl HIX.out ?_)
            | (refine wpList_buildSlice_one rfl 36 1 (.tmp 37) rfl (ecV x) rfl _ _ (build55e HXL.out W7) ?_)
            | (at_builtin; refine wpList_append_lies _ rfl (.tmp 36) (.tmp 38) 36 rfl (H + 1) 76 i0 (.agg (ec x0).toArray) 22 88 Try.underlying36 hi hz0 hz1 hz2 rfl (by decide) (.slice av nv cv) xs.length (ecs xs) rfl (S7.out.1.es.keep (more (Below.refl _ _) _)).v ⟨W7.heap.size, 0, none⟩ 1 1 (ec x) rfl ?e0 ?e1 ?e2 (by decide) ?e3 ?e4 ?e5 (W7.heap.size + 1) ?e6 ?_))
          case e0 => rw [ec_len HXL.out]
          case e1 => exact World.news_of_block (Blk.new W7 (.cells (ec x).toArray 76))
          case e2 => exact fun u hu => List.all_eq_true.1 (by simpa using ec_one x) u hu
          case e3 => have := HXS.out.1; have := HK8.out; unfold maxLen; omega
          case e4 => have := HXS.out.1; have := HK8.out; omega
          case e5 => have := S7.out.1.h.lt; simp; omega
          case e6 => simp
          intro g capN w8 ho hg hv hlt9
          have HH8 : Kp (Blk w8 H (.cells #[.bool fl, .slice av nv cv] 45)) := ⟨S7.out.1.h.upto (below_row_grown (B := H + 1) ((more (Below.refl _ _) _).mono (by have := S7.out.1.h.lt; omega)) (by have := S7.out.1.h.lt; simp; omega) (S7.out.1.es.keep (more (Below.refl _ _) _)).v hg) (by omega)⟩
          have S8 := Kp.mk (S7.out.1.app S7.out.2.2 ho hg)
          clear ho hg hv hlt9 c0 d1
          have d1 : w8.cell? ⟨H, 1, none⟩ = some (.slice av nv cv) := HH8.out.cell 1
          have f1 := HH8.out.frozen 1
          clear S7 HH8
          go_wp2_with fail
          exact ⟨⟨i + 1, _, _, _, xs ++ [(x, nW B (uT B i).1, nP B (uT B i).1)], L7, by omega, by rw [HXD.out]; rfl, by go_num, ⟨by rw [HT1.out]; exact S8.out, by rw [HT1.out]; exact R7.out, UGood.app HXS.out HUE.out⟩⟩, by simp [intOf]; omega⟩
      · obtain rfl : i = k := by omega
        have HWK : Kp (uT B i = uT B (uK B)) := ⟨by rw [HKE.out]⟩
        have HGD : Kp (UGood B (uK B) xs) := ⟨by have := HST.out.2.2; rw [HKE.out] at this; exact this⟩
        go_wp2_with fail
        refine (endI_any I I l _ wr HST.out.1.i).mono ?_
        rintro r w5 ⟨rfl, l5, s5⟩
        rw [uend_is HST.out.2.1, HWK.out, show (if 0 < rleft B (uT B (uK B)).1.1 (uT B (uK B)).1.2 then 10 else (uT B (uK B)).1.2) = uEnd B from rfl]
        have S5 := Kp.mk (HST.out.1.read s5)
        clear s5 HST
        by_cases he : uEnd B = 0
        · have HGE := Kp.mk he
          rw [he]
          clear he
          go_wp2_with (first
            | (refine wpList_load_row rfl 45 (.tmp 6) rfl H rfl 45 #[.bool fl, .slice av nv cv] (0, 0) _ S5.out.h Try.underlying45 rfl info57s ?_)
            | (refine wpList_store_row rfl 45 (.tmp 2) (.tmp 48) rfl R #[.bool fl, .slice av nv cv] rfl rfl 45 _ S5.out.r info57s rfl (u_one _ _ _ _) ?_; refine wpl_world (w := w5.setRow R #[.bool fl, .slice av nv cv]) (fun W => Blk W R (.cells #[.bool fl, .slice av nv cv] 45) ∧ EOs W 76 70 (H + 1) (.slice av nv cv) xs ∧ Below R w W) ⟨(Turn.ofRow S5.out.r _).blk, S5.out.es.turn (Turn.ofRow S5.out.r _) (by have := S5.out.ri; have := S5.out.ih; omega), S5.out.below.trans ((Turn.ofRow S5.out.r _).below (Nat.le_refl _) (by have := S5.out.r.lt; omega))⟩ ?_; rintro W6 h6; have S6 := Kp.mk h6; clear h6))
          exact bodyPost_ret (results_row_tmpU rfl _ _ R 45 _ _ _ (.int .i64 0) rfl rfl S6.out.1 Try.underlying45 rfl info57s) rfl ⟨av, nv, cv, xs, by rw [HGE.out, HFL.out]; rfl, EOs.base S6.out.2.1 (by have := HRe.out; have := S5.out.ri; have := S5.out.ih; omega), by rw [if_pos HGE.out]; exact HGD.out, by rw [← HRe.out]; exact S6.out.2.2⟩
        · have HGE := Kp.mk he
          have hne : (uEnd B != 0) = true := by simpa using he
          obtain ⟨E, hE⟩ : ∃ E, E = uEnd B := ⟨_, rfl⟩
          have HE := Kp.mk hE
          rw [← hE] at hne ⊢
          clear he hE
          go_wp2_with (refine wpList_store_row rfl 45 (.tmp 2) (.tmp 46) rfl R #[.bool false, .slice none 0 0] rfl rfl 45 _ S5.out.r info57s rfl (u_one _ _ _ _) ?_; refine wpl_world (w := w5.setRow R #[.bool false, .slice none 0 0]) (fun W => Blk W R (.cells #[.bool false, .slice none 0 0] 45) ∧ Below R w W) ⟨(Turn.ofRow S5.out.r _).blk, S5.out.below.trans ((Turn.ofRow S5.out.r _).below (Nat.le_refl _) (by have := S5.out.r.lt; omega))⟩ ?_; rintro W6 h6; have S6 := Kp.mk h6; clear h6)
          exact bodyPost_ret (results_row_tmpU rfl _ _ R 45 _ _ _ (.int .i64 E) rfl rfl S6.out.1 Try.underlying45 rfl info57s) rfl ⟨none, 0, 0, [], by rw [decide_eq_false HGE.out, HE.out]; rfl, ⟨World.ownsRow_nil _ _ _ _, fun z hz => by cases hz⟩, by rw [if_neg HGE.out], by rw [← HRe.out]; exact S6.out.2⟩
end Go.Proofs.Ytioeaknhcfkfcaa

namespace Go.Proofs.Ytioeaknhcfkfcaa
open Go.RowKit

/-- The cells of a credential that came in, and what its slices hold. -/
structure CredIn (W : World) (lf : List Int) (a : Option Addr) (n c : Nat) (b : Option Addr) (m d : Nat) (wl pl : List Int) : Prop where
  l : lf.length = 16
  lb : Bytes lf
  w : HoldsS W (.slice a n c) n wl
  p : HoldsS W (.slice b m d) m pl
  wn : n ≤ 1000000
  pn : m ≤ 1000000
theorem CredIn.keep {W W' : World} {lf : List Int} {a : Option Addr} {n c : Nat} {b : Option Addr} {m d : Nat} {wl pl : List Int} (h : CredIn W lf a n c b m d wl pl) (hb : Below W.heap.size W W') : CredIn W' lf a n c b m d wl pl := ⟨h.l, h.lb, h.w.keep hb, h.p.keep hb, h.wn, h.pn⟩
theorem cc_range {w : World} {A : Nat} {lf : List Int} {a : Option Addr} {n c : Nat} {b : Option Addr} {m d : Nat} (h : Blk w A (.cells (cc lf a n c b m d).toArray 30)) : w.rangeAt A 0 (bv lf) := fun j u hu => by
  rw [Nat.zero_add, h.cell j, List.getElem?_toArray]
  unfold cc
  rw [List.getElem?_append_left (by have := (List.getElem?_eq_some_iff.1 hu).1; exact this)]
  exact hu
theorem cc_cell16 {w : World} {A : Nat} {lf : List Int} {a : Option Addr} {n c : Nat} {b : Option Addr} {m d : Nat} (hl : lf.length = 16) (h : Blk w A (.cells (cc lf a n c b m d).toArray 30)) : w.cell? ⟨A, 16, none⟩ = some (.slice a n c) := (h.cell 16).trans (by rw [List.getElem?_toArray]; exact cc_16 hl _ _ _ _ _ _)
theorem cc_cell17 {w : World} {A : Nat} {lf : List Int} {a : Option Addr} {n c : Nat} {b : Option Addr} {m d : Nat} (hl : lf.length = 16) (h : Blk w A (.cells (cc lf a n c b m d).toArray 30)) : w.cell? ⟨A, 17, none⟩ = some (.slice b m d) := (h.cell 17).trans (by rw [List.getElem?_toArray]; exact cc_17 hl _ _ _ _ _ _)
set_option maxRecDepth 100000 in
set_option maxHeartbeats 8000000 in
theorem samecred_any (lf : List Int) (a : Option Addr) (n c : Nat) (b : Option Addr) (m d : Nat) (a2 : Option Addr) (c2 : Nat) (b2 : Option Addr) (d2 : Nat) (wl pl : List Int) (w : World)
    (h1 : CredIn w lf a n c b m d wl pl) (h2 : CredIn w lf a2 n c2 b2 m d2 wl pl) :
    Calls Try.prog 38 #[.agg (cc lf a n c b m d).toArray, .agg (cc lf a2 n c2 b2 m d2).toArray] w fun r w' => r = .returned (.bool true) ∧ Below w.heap.size w w' := by
  have hC1 := fun (w : World) => box_row (t := 30) (cs := cc lf a n c b m d) (info103s h1.l _ _ _ _ _ _) w
  have hC2 := fun (w : World) => box_row (t := 30) (cs := cc lf a2 n c2 b2 m d2) (info103s h1.l _ _ _ _ _ _) w
  obtain ⟨A, hA⟩ : ∃ A, A = w.heap.size := ⟨_, rfl⟩
  have HAe := Kp.mk hA
  have heq := eqIn42 h1.lb h1.l
  have HCL := Lib.hid (cellsL42 h1.l)
  have H0 : Kp (Blk ((w.alloc (.cells (cc lf a n c b m d).toArray 30)).alloc (.cells (cc lf a2 n c2 b2 m d2).toArray 30)) A (.cells (cc lf a n c b m d).toArray 30) ∧ Blk ((w.alloc (.cells (cc lf a n c b m d).toArray 30)).alloc (.cells (cc lf a2 n c2 b2 m d2).toArray 30)) (A + 1) (.cells (cc lf a2 n c2 b2 m d2).toArray 30) ∧ CredIn ((w.alloc (.cells (cc lf a n c b m d).toArray 30)).alloc (.cells (cc lf a2 n c2 b2 m d2).toArray 30)) lf a n c b m d wl pl ∧ CredIn ((w.alloc (.cells (cc lf a n c b m d).toArray 30)).alloc (.cells (cc lf a2 n c2 b2 m d2).toArray 30)) lf a2 n c2 b2 m d2 wl pl ∧ Below A w ((w.alloc (.cells (cc lf a n c b m d).toArray 30)).alloc (.cells (cc lf a2 n c2 b2 m d2).toArray 30))) :=
    ⟨(Blk.newAt _ hA).old _, Blk.newAt _ (by simp [hA]), (h1.keep (more (Below.refl _ _) _)).keep (more (Below.refl _ _) _), (h2.keep (more (Below.refl _ _) _)).keep (more (Below.refl _ _) _), by rw [hA]; exact more (more (Below.refl _ _) _) _⟩
  clear h1 h2
  go_enter Try.func38, Try.ntmps38
  go_wp2_with (first
    | (refine wpList_box_eq rfl 30 (.tmp 0) rfl _ rfl _ _ (hC1 _) ?_)
    | (refine wpList_box_eq rfl 30 (.tmp 1) rfl _ rfl _ _ (hC2 _) ?_; rw [show (w.alloc (.cells (cc lf a n c b m d).toArray 30)).heap.size = A + 1 from by simp [hA]]; rw [← hA]; refine wpl_world (fun W => Blk W A (.cells (cc lf a n c b m d).toArray 30) ∧ Blk W (A + 1) (.cells (cc lf a2 n c2 b2 m d2).toArray 30) ∧ CredIn W lf a n c b m d wl pl ∧ CredIn W lf a2 n c2 b2 m d2 wl pl ∧ Below A w W) H0.out ?_; rintro W hW; have ST := Kp.mk hW; have q1 := cc_cell16 hW.2.2.1.l hW.1; have q2 := cc_cell17 hW.2.2.1.l hW.1; have q3 := cc_cell16 hW.2.2.1.l hW.2.1; have q4 := cc_cell17 hW.2.2.1.l hW.2.1; clear hW H0 hC1 hC2 hA)
    | (refine wpList_load_mid rfl 27 (.tmp 5) rfl A 0 rfl (bv lf) _ (cc_range ST.out.1) Try.underlying27 rfl HCL.out ?_)
    | (refine wpList_load_mid rfl 27 (.tmp 7) rfl (A + 1) 0 rfl (bv lf) _ (cc_range ST.out.2.1) Try.underlying27 rfl HCL.out ?_))
  clear q1 q3
  refine (sames_any _ _ n wl W ST.out.2.2.1.w ST.out.2.2.2.1.w ST.out.2.2.1.wn).mono ?_
  rintro r W2 ⟨rfl, hb⟩
  have S2 : Kp (CredIn W2 lf a n c b m d wl pl ∧ CredIn W2 lf a2 n c2 b2 m d2 wl pl ∧ Below A w W2 ∧ A ≤ W2.heap.size) := ⟨ST.out.2.2.1.keep hb, ST.out.2.2.2.1.keep hb, ST.out.2.2.2.2.trans (hb.mono (Nat.le_of_lt ST.out.1.lt)), by have := ST.out.1.lt; have := hb.size; omega⟩
  have q5 := cc_cell17 ST.out.2.2.1.l (ST.out.1.keep hb)
  have q6 := cc_cell17 ST.out.2.2.1.l (ST.out.2.1.keep hb)
  clear hb q2 q4 heq ST
  go_wp2_with fail
  refine (sames_any _ _ m pl W2 S2.out.1.p S2.out.2.1.p S2.out.1.pn).mono ?_
  rintro r W3 ⟨rfl, hb⟩
  have S3 : Kp (Below w.heap.size w W3) := ⟨by rw [← HAe.out]; exact S2.out.2.2.1.trans (hb.mono S2.out.2.2.2)⟩
  clear hb q5 q6 S2
  go_wp2_with fail
  go_ret
  exact ⟨rfl, S3.out⟩
end Go.Proofs.Ytioeaknhcfkfcaa

namespace Go.Proofs.Ytioeaknhcfkfcaa
open Go.RowKit

theorem info52s : (Try.prog.info? 49).map (·.size) = some 2 := by kernel_rfl
theorem ec_at0 {w : World} {b o : Nat} {x : EV} (h : w.rangeAt b o (ec x)) : w.cell? ⟨b, o, none⟩ = some (.int .i64 x.d) := h 0 _ (ec_0 x)
theorem ec_key {w : World} {b o : Nat} {x : EV} (h : w.rangeAt b o (ec x)) : w.rangeAt b (o + 1) [.int .u32 x.e, .int .u32 x.s, .int .i64 x.m] := fun j u hu => by
  match j, hu with
  | 0, hu => exact h 1 _ hu
  | 1, hu => exact h 2 _ hu
  | 2, hu => exact h 3 _ hu
theorem ec_cred {w : World} {b o : Nat} {x : EV} (h : w.rangeAt b o (ec x)) : w.rangeAt b (o + 4) (cc x.lf x.wa x.wn x.wc x.pa x.pn x.pc) := fun j u hu => by
  rw [show o + 4 + j = o + (4 + j) by omega]
  refine h (4 + j) u ?_
  have e : ec x = [.int .i64 x.d, .int .u32 x.e, .int .u32 x.s, .int .i64 x.m] ++ cc x.lf x.wa x.wn x.wc x.pa x.pn x.pc := by simp [ec, cc]
  rw [e, List.getElem?_append_right (by simp)]
  simpa using hu
/-- The same entry, wherever its rows stand. -/
def SameE (x y : E3) : Prop := x.1.d = y.1.d ∧ x.1.e = y.1.e ∧ x.1.s = y.1.s ∧ x.1.m = y.1.m ∧ x.1.lf = y.1.lf ∧ x.1.wn = y.1.wn ∧ x.1.pn = y.1.pn ∧ x.2.1 = y.2.1 ∧ x.2.2 = y.2.2
/-- An entry in memory; its rows, where they aren't empty, below M. -/
structure EIw (w : World) (M : Nat) (z : E3) : Prop where
  l : z.1.lf.length = 16
  b : Bytes z.1.lf
  e : 0 ≤ z.1.e ∧ z.1.e ≤ 4294967295
  s : 0 ≤ z.1.s ∧ z.1.s ≤ 4294967295
  wn : z.1.wn ≤ 65535
  pn : z.1.pn ≤ 65535
  hw : HoldsS w (.slice z.1.wa z.1.wn z.1.wc) z.1.wn z.2.1
  hp : HoldsS w (.slice z.1.pa z.1.pn z.1.pc) z.1.pn z.2.2
  wb : 0 < z.1.wn → ∀ b, (Value.slice z.1.wa z.1.wn z.1.wc).ownBlock = some b → b < M
  pb : 0 < z.1.pn → ∀ b, (Value.slice z.1.pa z.1.pn z.1.pc).ownBlock = some b → b < M
theorem EIw.keep {w w' : World} {M : Nat} {z : E3} (h : EIw w M z) (hb : Below w.heap.size w w') : EIw w' M z := ⟨h.l, h.b, h.e, h.s, h.wn, h.pn, h.hw.keep hb, h.hp.keep hb, h.wb, h.pb⟩
structure HoldsW (w : World) (M : Nat) (a : Option Addr) (n : Nat) (f : Nat → E3) : Prop where
  e : ∀ i, i < n → EIw w M (f i)
  c : ∀ i, i < n → ∃ b off, a = some ⟨b, off, none⟩ ∧ b < M ∧ b < w.heap.size ∧ w.rangeAt b (off + i * 22) (ec (f i).1)
theorem HoldsW.keep {w w' : World} {M n : Nat} {a : Option Addr} {f : Nat → E3} (h : HoldsW w M a n f) (hb : Below w.heap.size w w') : HoldsW w' M a n f :=
  ⟨fun i hi => (h.e i hi).keep hb, fun i hi => by
    obtain ⟨b, off, e1, e2, e3, e4⟩ := h.c i hi
    exact ⟨b, off, e1, e2, Nat.lt_of_lt_of_le e3 hb.size, rangeAt_keepU e4 (hb.block _ e3)⟩⟩
theorem HoldsE.weak {w : World} {M n : Nat} {a : Option Addr} {f : Nat → E3} (h : HoldsE w M a n f) : HoldsW w M a n f :=
  ⟨fun i hi => ⟨(h.e i hi).l, (h.e i hi).b, (h.e i hi).e, (h.e i hi).s, (h.e i hi).wn, (h.e i hi).pn, (h.e i hi).hw, (h.e i hi).hp, fun _ => (h.e i hi).wb, fun _ => (h.e i hi).pb⟩, h.c⟩
/-- Two updates in their cells. -/
structure SU (w : World) (A M K : Nat) (u : Bool) (n : Nat) (a : Option Addr) (c : Nat) (a2 : Option Addr) (c2 : Nat) (f g : Nat → E3) (W : World) : Prop where
  r1 : Blk W A (.cells #[.bool u, .slice a n c] 49)
  r2 : Blk W (A + 1) (.cells #[.bool u, .slice a2 n c2] 49)
  e1 : HoldsW W M a n f
  e2 : HoldsW W K a2 n g
  below : Below A w W
theorem SU.more {w W W' : World} {A M K : Nat} {u : Bool} {n : Nat} {a : Option Addr} {c : Nat} {a2 : Option Addr} {c2 : Nat} {f g : Nat → E3} (h : SU w A M K u n a c a2 c2 f g W) (hb : Below W.heap.size W W') : SU w A M K u n a c a2 c2 f g W' :=
  ⟨h.r1.keep hb, h.r2.keep hb, h.e1.keep hb, h.e2.keep hb, h.below.trans (hb.mono (Nat.le_of_lt h.r1.lt))⟩
theorem EIw.cred {w : World} {M : Nat} {z : E3} (h : EIw w M z) : CredIn w z.1.lf z.1.wa z.1.wn z.1.wc z.1.pa z.1.pn z.1.pc z.2.1 z.2.2 := ⟨h.l, h.b, h.hw, h.hp, by have := h.wn; omega, by have := h.pn; omega⟩
set_option maxRecDepth 100000 in
set_option maxHeartbeats 16000000 in
theorem sameUpdate_any (M K : Nat) (u : Bool) (n : Nat) (a : Option Addr) (c : Nat) (a2 : Option Addr) (c2 : Nat) (f g : Nat → E3) (w : World) (h1 : HoldsW w M a n f) (h2 : HoldsW w K a2 n g) (hs : ∀ i, i < n → SameE (f i) (g i)) (hn : n ≤ 1000000) :
    Calls Try.prog 14 #[.agg #[.bool u, .slice a n c], .agg #[.bool u, .slice a2 n c2]] w fun r w' => r = .returned (.bool true) ∧ Below w.heap.size w w' := by
  obtain ⟨A, hA⟩ : ∃ A, A = w.heap.size := ⟨_, rfl⟩
  have HAe := Kp.mk hA
  have HSM := Kp.mk hs
  have S0 : Kp (SU w A M K u n a c a2 c2 f g ((w.alloc (.cells #[.bool u, .slice a n c] 49)).alloc (.cells #[.bool u, .slice a2 n c2] 49))) := ⟨(Blk.newAt _ hA).old _, Blk.newAt _ (by simp [hA]), (h1.keep (more (Below.refl _ _) _)).keep (more (Below.refl _ _) _), (h2.keep (more (Below.refl _ _) _)).keep (more (Below.refl _ _) _), by rw [hA]; exact more (more (Below.refl _ _) _) _⟩
  have b1 : (u == u) = true := by simp
  have b2 : (u != u) = false := by simp
  have n1 : ((n : Int) == n) = true := by simp
  have n2 : ((n : Int) != n) = false := by simp
  clear h1 h2 hs
  go_enter Try.func14, Try.ntmps14
  go_wp2_with fail
  rw [← hA]
  clear hA
  generalize (w.alloc (.cells #[.bool u, .slice a n c] 49)).alloc (.cells #[.bool u, .slice a2 n c2] 49) = W at *
  clear b1 b2 n1 n2
  go_loopw [5] (fun ct wr => ∃ i : Nat, i ≤ n ∧ ct = .int .i64 i ∧ Kp (SU w A M K u n a c a2 c2 f g wr)) (fun ct _ => n - (intOf ct).toNat)
  case atStart => exact ⟨0, by omega, rfl, S0⟩
  case round =>
    obtain ⟨i, hi, rfl, HS⟩ := hrel
    obtain ⟨p0, p1, -, -⟩ := HS.out.r1.two
    obtain ⟨q0, q1, -, -⟩ := HS.out.r2.two
    by_cases hlt : i < n
    · obtain ⟨b, off, rfl, -, hb1, k1⟩ := HS.out.e1.c i hlt
      obtain ⟨b2, off2, rfl, -, hb2, k2⟩ := HS.out.e2.c i hlt
      have HE1 := Kp.mk (HS.out.e1.e i hlt)
      have HE2 := Kp.mk (HS.out.e2.e i hlt)
      have hsm := HSM.out i hlt
      obtain ⟨x, hx⟩ : ∃ x, x = f i := ⟨_, rfl⟩
      obtain ⟨y, hy⟩ : ∃ y, y = g i := ⟨_, rfl⟩
      rw [← hx] at hsm HE1 k1
      rw [← hy] at hsm HE2 k2
      clear hx hy
      obtain ⟨⟨d, e, s, m, lf, wa, wn, wc, pa, pn, pc⟩, wl, pl⟩ := x
      obtain ⟨⟨d', e', s', m', lf', wa', wn', wc', pa', pn', pc'⟩, wl', pl'⟩ := y
      obtain ⟨g1, g2, g3, g4, g5, g6, g7, g8, g9⟩ := hsm
      simp only at g1 g2 g3 g4 g5 g6 g7 g8 g9
      subst g1 g2 g3 g4 g5 g6 g7 g8 g9
      have HC : Kp (SU w A M K u n (some ⟨b, off, none⟩) c (some ⟨b2, off2, none⟩) c2 f g wr.drew ∧ wr.drew.rangeAt b (off + i * 22) (ec ⟨d, e, s, m, lf, wa, wn, wc, pa, pn, pc⟩) ∧ wr.drew.rangeAt b2 (off2 + i * 22) (ec ⟨d, e, s, m, lf, wa', wn, wc', pa', pn, pc'⟩) ∧ (b < wr.drew.heap.size ∧ b2 < wr.drew.heap.size) ∧ CredIn wr.drew lf wa wn wc pa pn pc wl pl ∧ CredIn wr.drew lf wa' wn wc' pa' pn pc' wl pl) :=
        ⟨HS.out.more (Below.refl _ _).drew, rangeAt_keepU k1 ((Below.refl wr.heap.size wr).drew.block _ hb1), rangeAt_keepU k2 ((Below.refl wr.heap.size wr).drew.block _ hb2), ⟨hb1, hb2⟩, HE1.out.cred.keep (Below.refl _ _).drew, HE2.out.cred.keep (Below.refl _ _).drew⟩
      have HL := Kp.mk HE1.out.l
      have d1 : (d == d) = true := by simp
      have d2 : (d != d) = false := by simp
      have e1 : (e == e) = true := by simp
      have s1 : (s == s) = true := by simp
      have m1 : (m == m) = true := by simp
      have HC18 : Kp ((Try.prog.info? 30).map (·.size) = some (cc lf wa wn wc pa pn pc).length ∧ (Try.prog.info? 30).map (·.size) = some (cc lf wa' wn wc' pa' pn pc').length) := ⟨by rw [cc_len HL.out]; kernel_rfl, by rw [cc_len HL.out]; kernel_rfl⟩
      clear k1 k2 hb1 hb2 HE1 HE2
      go_wp2_with fail
      clear p0 p1 q0 q1 HS
      refine wp_region_flow (fun w' => SU w A M K u n (some ⟨b, off, none⟩) c (some ⟨b2, off2, none⟩) c2 f g w' ∧ w'.rangeAt b (off + i * 22) (ec ⟨d, e, s, m, lf, wa, wn, wc, pa, pn, pc⟩) ∧ w'.rangeAt b2 (off2 + i * 22) (ec ⟨d, e, s, m, lf, wa', wn, wc', pa', pn, pc'⟩) ∧ (b < w'.heap.size ∧ b2 < w'.heap.size) ∧ CredIn w' lf wa wn wc pa pn pc wl pl ∧ CredIn w' lf wa' wn wc' pa' pn pc' wl pl) (by kernel_rfl) (by kernel_rfl) (by kernel_rfl)
        (fun w1 w2 h hb => ⟨h.1.more hb, rangeAt_keepU h.2.1 (hb.block _ h.2.2.2.1.1), rangeAt_keepU h.2.2.1 (hb.block _ h.2.2.2.1.2), ⟨Nat.lt_of_lt_of_le h.2.2.2.1.1 hb.size, Nat.lt_of_lt_of_le h.2.2.2.1.2 hb.size⟩, h.2.2.2.2.1.keep hb, h.2.2.2.2.2.keep hb⟩) HC.out ?_
      repeat (first
        | (apply Flow.value
           · rfl
           · (intro wx hS; exact exec_load_mid rfl rfl (ec_key hS.2.1) Try.underlying26 rfl (by kernel_rfl))
           try simp only [Act.put, List.setIfInBounds_toArray, List.set_cons_zero, List.set_cons_succ])
        | (apply Flow.value
           · rfl
           · (intro wx hS; exact exec_load_mid rfl rfl (ec_key hS.2.2.1) Try.underlying26 rfl (by kernel_rfl))
           try simp only [Act.put, List.setIfInBounds_toArray, List.set_cons_zero, List.set_cons_succ])
        | (apply Flow.value
           · rfl
           · (intro wx hS; exact exec_load_mid rfl rfl (ec_cred hS.2.1) Try.underlying30 rfl HC18.out.1)
           try simp only [Act.put, List.setIfInBounds_toArray, List.set_cons_zero, List.set_cons_succ])
        | (apply Flow.value
           · rfl
           · (intro wx hS; exact exec_load_mid rfl rfl (ec_cred hS.2.2.1) Try.underlying30 rfl HC18.out.2)
           try simp only [Act.put, List.setIfInBounds_toArray, List.set_cons_zero, List.set_cons_succ])
        | (apply Flow.value
           · rfl
           · (intro wx hS; have c1 := (hS.1.r1.cell 1); have c2 := (hS.1.r2.cell 1); have c3 := ec_at0 hS.2.1; have c4 := ec_at0 hS.2.2.1; clear hS; go_simp; with_reducible rfl)
           try simp only [Act.put, List.setIfInBounds_toArray, List.set_cons_zero, List.set_cons_succ]))
      refine Flow.call (f := 38) (args := #[.agg (cc lf wa wn wc pa pn pc).toArray, .agg (cc lf wa' wn wc' pa' pn pc').toArray]) (v := .bool true) rfl (fun wx hS => by clear hS; first | (go_simp; done) | (go_simp; with_reducible rfl)) (fun wx hS => (samecred_any lf wa wn wc pa pn pc wa' wc' pa' pc' wl pl wx hS.2.2.2.2.1 hS.2.2.2.2.2).mono fun r w9 h => by obtain ⟨h1, h2⟩ := h; exact ⟨h1, h2⟩) ?_
      try simp only [Act.put, List.setIfInBounds_toArray, List.set_cons_zero, List.set_cons_succ]
      repeat (
        apply Flow.value
        · rfl
        · (intro wx hS; clear hS; go_simp; with_reducible rfl)
        try simp only [Act.put, List.setIfInBounds_toArray, List.set_cons_zero, List.set_cons_succ])
      refine Flow.done ?_
      intro w4 hS
      have HS4 := Kp.mk hS.1
      clear hS d1 d2 e1 s1 m1
      go_wp2_with fail
      exact ⟨⟨i + 1, by omega, by go_num, HS4⟩, by simp [intOf]; omega⟩
    · obtain rfl : i = n := by omega
      go_wp2_with fail
      go_ret
      exact ⟨rfl, by rw [← HAe.out]; exact HS.out.below⟩
end Go.Proofs.Ytioeaknhcfkfcaa

namespace Go.Proofs.Ytioeaknhcfkfcaa
open Go.RowKit

theorem info105s {x : EV} (h : x.lf.length = 16) : (Try.prog.info? 32).map (·.size) = some (ec x).toArray.size := by
  rw [List.size_toArray, ec_len h]
  kernel_rfl
/-- n entries stand at a, whatever they are. -/
structure HoldsL (w : World) (a : Option Addr) (n : Nat) (f : Nat → EV) : Prop where
  l : ∀ i, i < n → (f i).lf.length = 16
  m : ∀ i, i < n → (f i).wn ≤ maxLen ∧ (f i).pn ≤ maxLen
  c : ∀ i, i < n → ∃ b off, a = some ⟨b, off, none⟩ ∧ b < w.heap.size ∧ w.rangeAt b (off + i * 22) (ec (f i))
theorem HoldsL.keep {w w' : World} {n : Nat} {a : Option Addr} {f : Nat → EV} (h : HoldsL w a n f) (hb : Below w.heap.size w w') : HoldsL w' a n f :=
  ⟨h.l, h.m, fun i hi => by
    obtain ⟨b, off, e1, e3, e4⟩ := h.c i hi
    exact ⟨b, off, e1, Nat.lt_of_lt_of_le e3 hb.size, rangeAt_keepU e4 (hb.block _ e3)⟩⟩
/-- What light answers. -/
def LightPost (n : Nat) (f : Nat → EV) (w : World) (r : Ending) (w' : World) : Prop :=
  ∃ b, r = .returned (.bool b) ∧ (b = true → n ≤ 30 ∧ ∀ i, i < n → (f i).wn ≤ 20 ∧ (f i).pn ≤ 20) ∧ Below w.heap.size w w'
end Go.Proofs.Ytioeaknhcfkfcaa
