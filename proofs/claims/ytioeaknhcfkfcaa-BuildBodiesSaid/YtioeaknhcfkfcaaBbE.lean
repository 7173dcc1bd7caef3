/-
  BuildBodies: the example; the walk.
-/
import Derived.Test.YtioeaknhcfkfcaaBbD
namespace Go.Proofs.Ytioeaknhcfkfcaa
open Go.RowKit

theorem bdc_at : ∀ (L : List BdV) (i : Nat) (hi : i < L.length), (L.flatMap bdc)[i * 2]? = some (.int .i64 L[i].k) ∧ (L.flatMap bdc)[i * 2 + 1]? = some L[i].v
  | [], i, hi => absurd hi (by simp)
  | x :: t, 0, _ => ⟨rfl, rfl⟩
  | x :: t, i + 1, hi => by
    have h := bdc_at t i (by simpa using hi)
    rw [List.flatMap_cons, show (i + 1) * 2 = i * 2 + 2 by omega, show i * 2 + 2 + 1 = i * 2 + 1 + 2 by omega]
    rw [List.getElem?_append_right (by simp [bdc]), List.getElem?_append_right (by simp [bdc])]
    simpa [bdc] using h
/-- A row of bodies. -/
structure BRow (w : World) (e : TypeId) (v : Value) (L : List BdV) : Prop where
  r : ∃ A, w.ownsRow A e 2 v L.length (L.flatMap bdc)
  t : ∀ x ∈ L, HoldsB w w.heap.size x.v x.l
theorem BRow.keep {w w' : World} {e : TypeId} {v : Value} {L : List BdV} (h : BRow w e v L) (hb : Below w.heap.size w w') : BRow w' e v L := by
  obtain ⟨A, hr⟩ := h.r
  exact ⟨⟨A, ownsRow_below hr hb⟩, fun x hx => (h.t x hx).grow hb⟩
theorem BRow.shape {w : World} {e : TypeId} {v : Value} {L : List BdV} (h : BRow w e v L) : ∃ a c, v = .slice a L.length c := by
  obtain ⟨A, hr⟩ := h.r
  rcases hr.2 with ⟨h9, h8⟩ | ⟨g, cap, cur, h9, _⟩
  · rw [h8]; exact ⟨_, _, h9⟩
  · exact ⟨_, _, h9⟩
theorem BRow.at {w : World} {e : TypeId} {a : Option Addr} {n c : Nat} {L : List BdV} (h : BRow w e (.slice a n c) L) {i : Nat} (hi : i < L.length) :
    ∃ g ta tn tc, a = some ⟨g, 0, none⟩ ∧ w.cell? ⟨g, i * 2, none⟩ = some (.int .i64 L[i].k) ∧ w.cell? ⟨g, i * 2 + 1, none⟩ = some (.slice ta tn tc) ∧ HoldsB w w.heap.size (.slice ta tn tc) L[i].l := by
  obtain ⟨A, hr⟩ := h.r
  have ht := h.t _ (List.getElem_mem hi)
  obtain ⟨ta, tn, tc, e5, _⟩ := ht.slice
  obtain ⟨h1, h2⟩ := bdc_at L i hi
  rcases hr.2 with ⟨h9, h8⟩ | ⟨g, cap, cur, h9, _⟩
  · omega
  · cases h9
    refine ⟨g, ta, tn, tc, rfl, ?_, ?_, by rw [← e5]; exact ht⟩
    · rw [hr.cellAt (i * 2) (by omega)]; exact h1
    · rw [hr.cellAt (i * 2 + 1) (by omega), h2, e5]
theorem BRow.len {w : World} {e : TypeId} {v : Value} {L : List BdV} (h : BRow w e v L) : L.length ≤ maxLen := by
  obtain ⟨A, hr⟩ := h.r
  rcases hr.2 with ⟨h9, h8⟩ | ⟨g, cap, cur, h9, _, _, h1, h2, _⟩
  · rw [h8]; unfold maxLen; omega
  · omega
theorem same_at {L1 L2 : List BdV} (h : L1.map (fun x => (x.k, x.l)) = L2.map (fun x => (x.k, x.l))) : L1.length = L2.length ∧ ∀ i (h1 : i < L1.length) (h2 : i < L2.length), L1[i].k = L2[i].k ∧ L1[i].l = L2[i].l := by
  have hl : L1.length = L2.length := by have := congrArg List.length h; simpa using this
  refine ⟨hl, fun i h1 h2 => ?_⟩
  have := congrArg (fun l => l[i]?) h
  simpa [h1, h2] using this
theorem aw_e : bodE 1 [3] 16 = 0 := by decide
theorem aw_l : bodL 1 1 [3] 16 = [(1, [3])] := by decide
set_option maxHeartbeats 3200000 in
theorem awake_any (w : World) : Calls Try.prog 6 #[] w fun r w' => r = .returned (.bool true) ∧ Below w.heap.size w w' := by
  have HX : Kp (HoldsB (w.alloc (.cells #[.int .u8 3] 5)) (w.alloc (.cells #[.int .u8 3] 5)).heap.size (.slice (some ⟨w.heap.size, 0, none⟩) 1 1) [3]) :=
    ⟨HoldsB.ofRow (fun x hx => by simp at hx; omega) (ownsRow_oneB (B := 0) (Nat.zero_le _) (Blk.new _ _))⟩
  go_enter Try.func6, Try.ntmps6
  go_wp2_with fail
  refine (bodies_any 1 1 16 _ [3] _ HX.out (by decide) (by decide)).mono ?_
  rw [aw_e, aw_l]
  rintro r w1 ⟨v, L, rfl, hb, ho, ht, hm⟩
  have E : Kp (Below w.heap.size w w1) := ⟨(more (Below.refl _ _) _).trans (hb.mono (by simp))⟩
  have HR := Kp.mk (BRow.mk ⟨_, ho⟩ ht)
  clear hb ho ht
  have hl : L.length = 1 := by simpa using congrArg List.length hm
  obtain ⟨x, rfl⟩ := List.length_eq_one_iff.1 hl
  have hk : x.k = 1 := by simp at hm; exact hm.1
  obtain ⟨a, c, rfl⟩ := HR.out.shape
  obtain ⟨g, ta, tn, tc, rfl, c0, _, _⟩ := HR.out.at (i := 0) (by simp)
  rw [show ([x] : List BdV)[0].k = 1 from hk] at c0
  clear hm hk hl
  go_wp2_with fail
  go_ret
  exact ⟨rfl, E.out⟩
set_option maxRecDepth 100000 in
set_option maxHeartbeats 12800000 in
theorem buildBodies_walk (kind id : Int) (a : Option Addr) (n cap : Nat) (bl : List Int) (most : Int) (w : World) (_wk : (Lit.int .i64 kind).wf = true) (wi : (Lit.int .u32 id).wf = true) (h : HoldsB w w.heap.size (.slice a n cap) bl) (_wm : (Lit.int .i64 most).wf = true) :
    Calls Try.prog 5 #[.int .i64 kind, .int .u32 id, .slice a n cap, .int .i64 most] w fun r w' => r = .returned (.bool true) ∧ Below w.heap.size w w' := by
  have hid : 0 ≤ id ∧ id ≤ 4294967295 := by simpa [Lit.wf, IntKind.min, IntKind.max, IntKind.signed, IntKind.bits] using wi
  have hn : n = bl.length := by obtain ⟨a1, n1, c1, e1, e2⟩ := h.slice; simp only [Value.slice.injEq] at e1; omega
  have hnm : n ≤ 9223372036854775807 := by have := h.len; unfold maxLen at this; omega
  have H := Kp.mk h
  have HN := Kp.mk hn
  have HID := Kp.mk hid
  obtain ⟨M, hM⟩ : ∃ M, M = w.heap.size := ⟨_, rfl⟩
  rw [← hM] at H ⊢
  have HM := Kp.mk hM
  clear _wk wi h _wm hn hid hM
  by_cases hl : 20000 < n
  · go_enter Try.func5, Try.ntmps5
    go_wp2_with fail
    refine (awake_any _).mono ?_
    rintro r w1 ⟨rfl, hb⟩
    have E := Kp.mk hb
    clear hb
    go_wp2_with fail
    go_ret
    exact ⟨rfl, by rw [HM.out]; exact E.out⟩
  · have HL : Kp (bl.length ≤ 20000) := ⟨by rw [← HN.out]; omega⟩
    have hl2 : (n : Int) ≤ 20000 := by omega
    go_enter Try.func5, Try.ntmps5
    go_wp2_with fail
    refine (bodies_any kind id most _ bl _ (by rw [← HM.out]; exact H.out) HL.out HID.out).mono ?_
    rintro r w1 ⟨v1, L1, rfl, hb, ho, ht, hm1⟩
    have E1 : Kp (Below M w w1) := ⟨by rw [HM.out]; exact hb⟩
    have Z1 : Kp (M ≤ w1.heap.size) := ⟨by rw [HM.out]; exact hb.size⟩
    have R1 := Kp.mk (BRow.mk ⟨_, ho⟩ ht)
    have M1 := Kp.mk hm1
    clear hb ho ht hm1
    have H1 : Kp (HoldsB w1 w1.heap.size (.slice a n cap) bl) := ⟨(H.out.keep (by rw [← HM.out]; exact E1.out)).mono Z1.out⟩
    go_wp2_with fail
    refine (rbodies_any kind id most _ bl _ H1.out HL.out HID.out).mono ?_
    rintro r w2 ⟨v2, L2, rfl, hb, ho, ht, hm2⟩
    have E2 : Kp (Below M w w2) := ⟨E1.out.trans (hb.mono Z1.out)⟩
    have Z2 : Kp (M ≤ w2.heap.size) := ⟨Nat.le_trans Z1.out hb.size⟩
    replace R1 := Kp.mk (R1.out.keep hb)
    have R2 := Kp.mk (BRow.mk ⟨_, ho⟩ ht)
    have HS := Kp.mk (same_at (M1.out.trans hm2.symm))
    clear hb ho ht hm2 M1 H1 E1 Z1
    have hee : (bodE kind bl most != bodE kind bl most) = false := by simp
    generalize bodE kind bl most = er at hee
    go_wp2_with fail
    refine (awake_any _).mono ?_
    rintro r w3 ⟨rfl, hb⟩
    have E3 : Kp (Below M w w3) := ⟨E2.out.trans (hb.mono Z2.out)⟩
    have Z3 : Kp (M ≤ w3.heap.size) := ⟨Nat.le_trans Z2.out hb.size⟩
    replace R1 := Kp.mk (R1.out.keep hb)
    replace R2 := Kp.mk (R2.out.keep hb)
    clear hb E2 Z2
    obtain ⟨p1, c1, rfl⟩ := R1.out.shape
    obtain ⟨p2, c2, rfl⟩ := R2.out.shape
    have HLL := Kp.mk HS.out.1
    rw [← HLL.out] at R2 ⊢
    obtain ⟨m, hm⟩ : ∃ m, m = L1.length := ⟨_, rfl⟩
    have hm9 : m ≤ 9223372036854775807 := by rw [hm]; have := R1.out.len; unfold maxLen at this; omega
    rw [← hm] at R1 R2 ⊢
    have HMM := Kp.mk hm
    have hmm : ((m : Int) != (m : Int)) = false := by simp
    clear hm
    go_wp2_with fail
    obtain ⟨w0, hw0⟩ : ∃ w0, w0 = w3 := ⟨_, rfl⟩
    have R1' : Kp (BRow w0 59 (.slice p1 m c1) L1) := ⟨by rw [hw0]; exact R1.out⟩
    have R2' : Kp (BRow w0 60 (.slice p2 m c2) L2) := ⟨by rw [hw0]; exact R2.out⟩
    have W0 : Kp (∃ k, w3 = w0.drewN k) := ⟨0, hw0.symm⟩
    have E0 : Kp (Below M w w0) := ⟨by rw [hw0]; exact E3.out⟩
    have Z0 : Kp (M ≤ w0.heap.size) := ⟨by rw [hw0]; exact Z3.out⟩
    clear R1 R2 hw0 E3 Z3
    go_loopw [13, 56] (fun _ c wr => ∃ i : Nat, i ≤ m ∧ c = .int .i64 i ∧ Kp (∃ k, wr = w0.drewN k)) (fun _ c _ => m - (intOf c).toNat)
    case atStart => exact ⟨0, by omega, rfl, W0⟩
    case round =>
      clear W0
      obtain ⟨i, hi, rfl, ⟨k, rfl⟩⟩ := hrel
      by_cases hlt : i < m
      · have t1 : (i : Int) < m := by omega
        have HLT := Kp.mk hlt
        have hi1 : i < L1.length := by rw [← HMM.out]; exact hlt
        have hi2 : i < L2.length := by rw [← HLL.out, ← HMM.out]; exact hlt
        obtain ⟨q1, q2⟩ := HS.out.2 i hi1 hi2
        obtain ⟨g1, a1, n1, k1, rfl, x1, y1, z1⟩ := R1'.out.at hi1
        obtain ⟨g2, a2, n2, k2, rfl, x2, y2, z2⟩ := R2'.out.at hi2
        rw [← q1] at x2
        rw [← q2] at z2
        have s1 : ∀ j, (convert 39 9 (.slice a1 n1 k1)).run Try.prog (w0.drewN j) = .ok (.string (strOfNums L1[i].l)) (w0.drewN j) := fun j => ((z1.keep (below_drewN (Below.refl w0.heap.size w0) j))).text
        have s2 : ∀ j, (convert 39 9 (.slice a2 n2 k2)).run Try.prog (w0.drewN j) = .ok (.string (strOfNums L1[i].l)) (w0.drewN j) := fun j => ((z2.keep (below_drewN (Below.refl w0.heap.size w0) j))).text
        clear q1 q2 z1 z2 hlt
        generalize L1[i].k = kk at x1 x2
        generalize strOfNums L1[i].l = ss at s1 s2
        have e1 : (kk != kk) = false := by simp
        have e2 : (ss.toList == ss.toList) = true := by simp
        go_wp2_with fail
        go_quiet (fail)
        go_wp2_with fail
        exact ⟨⟨i + 1, by have := HLT.out; omega, by go_num, ⟨_, rfl⟩⟩, by have := HLT.out; simp [intOf]; omega⟩
      · obtain rfl : i = m := by omega
        have E4 : Kp (Below M w (w0.drewN k)) := ⟨E0.out.trans ((below_drewN (Below.refl w0.heap.size w0) k).mono Z0.out)⟩
        have Z4 : Kp (M ≤ (w0.drewN k).heap.size) := ⟨Z0.out⟩
        clear R1' R2' E0 Z0
        generalize w0.drewN k = w4 at E4 Z4 ⊢
        go_wp2_with fail
        refine (whole_any _ bl _ ((H.out.keep (by rw [← HM.out]; exact E4.out)).mono Z4.out) HL.out).mono ?_
        rintro r w5 ⟨a5, n5, c5, rfl, h5, hb⟩
        have E5 : Kp (Below M w w5) := ⟨E4.out.trans (hb.mono Z4.out)⟩
        have Z5 : Kp (M ≤ w5.heap.size) := ⟨Nat.le_trans Z4.out hb.size⟩
        have H5 := Kp.mk h5
        clear hb h5 E4 Z4
        go_wp2_with fail
        refine (rwhole_any _ bl _ ((H.out.keep (by rw [← HM.out]; exact E5.out)).mono Z5.out) HL.out).mono ?_
        rintro r w6 ⟨a6, n6, c6, rfl, h6, hb⟩
        have E6 : Kp (Below M w w6) := ⟨E5.out.trans (hb.mono Z5.out)⟩
        have s5 := (H5.out.grow hb).text
        have s6 := h6.text
        clear hb h6 E5 Z5 H5
        generalize strOfNums (whT bl) = ss at s5 s6
        generalize whK bl = kk
        generalize whE bl = ee
        have e1 : (kk == kk) = true := by simp
        have e2 : (ss.toList == ss.toList) = true := by simp
        have e3 : (ee == ee) = true := by simp
        go_wp2_with fail
        go_ret
        exact ⟨rfl, E6.out⟩
end Go.Proofs.Ytioeaknhcfkfcaa
