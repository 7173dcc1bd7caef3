/-
  The document's bytes of a piece.
  The contracts of In's small calls: Left, Err, Fail, next.
  A number as its bytes: plain arithmetic. Nothing of the program is named here.
  The contracts of In's numbers.
  The contracts of In's counts, short sums and blobs, and of its beginning and end.
  The contracts of In's beginning and end.
  The contracts of the document's In: Left, Raw.
  The contracts of the document's In: numbers, short sums, blobs, End.
  The contract of the document's In's Sums.
  The contracts of the document's In's Sums, whole, and Blob.
-/
import Derived.Test.YtioeaknhcfkfcaaBu06
import Derived.Laws.BitsAllLaws
import Derived.Laws.CopyOwn
import Derived.RegionTactic
import Derived.BigRegion
import Derived.Deep.RegionWith
namespace Go.Proofs.Ytioeaknhcfkfcaa
open Go.RowKit

set_option maxHeartbeats 1000000 in
theorem rright_any (p : PV) (w : World) : Calls Try.prog 66 #[p.v] w fun r w' => r = .returned (.bool (rightB p)) ∧ Below w.heap.size w w' := by
  by_cases h1 : 1 ≤ p.many
  · by_cases h2 : p.many ≤ 32
    · by_cases h3 : 0 ≤ p.at_
      · by_cases h4 : p.at_ < p.many
        · by_cases h5 : p.n ≤ 4096
          · have HE : Hid (rightB p = true) := by unfold Hid rightB; simp [h1, h2, h3, h4, h5]
            have h5' : (p.n : Int) ≤ 4096 := by omega
            go_enter Try.func66, Try.ntmps66
            go_wp2_with fail
            go_ret
            exact ⟨retb HE.out.symm, more (Below.refl _ _) _⟩
          · have HE : Hid (rightB p = false) := by unfold Hid rightB; simp [h5]
            have h5' : ¬ (p.n : Int) ≤ 4096 := by omega
            go_enter Try.func66, Try.ntmps66
            go_wp2_with fail
            go_ret
            exact ⟨retb HE.out.symm, more (Below.refl _ _) _⟩
        · have HE : Hid (rightB p = false) := by unfold Hid rightB; simp [h4]
          go_enter Try.func66, Try.ntmps66
          go_wp2_with fail
          go_ret
          exact ⟨retb HE.out.symm, more (Below.refl _ _) _⟩
      · have HE : Hid (rightB p = false) := by unfold Hid rightB; simp [h3]
        go_enter Try.func66, Try.ntmps66
        go_wp2_with fail
        go_ret
        exact ⟨retb HE.out.symm, more (Below.refl _ _) _⟩
    · have HE : Hid (rightB p = false) := by unfold Hid rightB; simp [h2]
      go_enter Try.func66, Try.ntmps66
      go_wp2_with fail
      go_ret
      exact ⟨retb HE.out.symm, more (Below.refl _ _) _⟩
  · have HE : Hid (rightB p = false) := by unfold Hid rightB; simp [h1]
    go_enter Try.func66, Try.ntmps66
    go_wp2_with fail
    go_ret
    exact ⟨retb HE.out.symm, more (Below.refl _ _) _⟩
set_option maxRecDepth 100000 in
set_option maxHeartbeats 2000000 in
theorem rput_bad (p : PV) (w : World) (h : rightB p = false) : Calls Try.prog 44 #[p.v] w fun r w' => r = .returned (.tuple #[.slice none 0 0, .int .i64 1]) ∧ Below w.heap.size w w' := by
  go_enter Try.func44, Try.ntmps44
  go_wp2_with fail
  refine (rright_any p _).mono ?_
  rintro r w1 ⟨rfl, hb⟩
  have HB1 : Kp (Below w.heap.size w w1) := ⟨(more (Below.refl _ _) _).trans (hb.mono (by simp))⟩
  clear hb
  rw [h]
  go_wp2_with fail
  exact bodyPost_ret (results_tmp2 rfl _ _ _) rfl ⟨rfl, HB1.out⟩
set_option maxRecDepth 100000 in
set_option maxHeartbeats 4000000 in
theorem rput_good (p : PV) (tp : List Int) (w : World) (h : HoldsB w w.heap.size (.slice p.a p.n p.c) tp) (hr : rightB p = true) (hid : 0 ≤ p.id ∧ p.id ≤ 4294967295) :
    Calls Try.prog 44 #[p.v] w fun r w' => ∃ v, r = .returned (.tuple #[v, .int .i64 0]) ∧ HoldsB w' w'.heap.size v (putM p tp) ∧ Below w.heap.size w w' := by
  have H := Kp.mk h
  have HR := Kp.mk (rightB_is hr)
  have hn : p.n = tp.length := by
    obtain ⟨a1, n1, c1, e1, e2⟩ := h.slice
    simp only [Value.slice.injEq] at e1
    omega
  have HNT : Kp (tp.length ≤ 4096) := ⟨by rw [← hn]; exact HR.out.2.2.2.2⟩
  have HID := Kp.mk hid
  have hw1 : IntKind.u64.wrap p.id = p.id := by simp [IntKind.wrap, IntKind.bits, IntKind.signed]; omega
  have hw2 : IntKind.u64.wrap p.at_ = p.at_ := by have := HR.out; simp [IntKind.wrap, IntKind.bits, IntKind.signed]; omega
  have hw3 : IntKind.u64.wrap p.many = p.many := by have := HR.out; simp [IntKind.wrap, IntKind.bits, IntKind.signed]; omega
  obtain ⟨L3, hL3⟩ : ∃ L3, L3 = ([] : List Int) ++ digs p.id 4 := ⟨_, rfl⟩
  obtain ⟨L4, hL4⟩ : ∃ L4, L4 = L3 ++ digs p.at_ 1 := ⟨_, rfl⟩
  obtain ⟨L5, hL5⟩ : ∃ L5, L5 = L4 ++ digs p.many 1 := ⟨_, rfl⟩
  obtain ⟨PM, hPM⟩ : ∃ PM, PM = putM p tp := ⟨_, rfl⟩
  have H3 : Kp (L3.length = 4) := ⟨by rw [hL3]; simp [digs_len]⟩
  have H4 : Kp (L4.length = 5) := ⟨by rw [hL4]; simp [digs_len, H3.out]⟩
  have H5 : Kp (L5.length = 6) := ⟨by rw [hL5]; simp [digs_len, H4.out]⟩
  have ok : ∀ (l : List Int) (n : Int) (k : Nat), n < 256 ^ k → (if 256 ^ k ≤ n then l else l ++ digs n k) = l ++ digs n k ∧ numF false n k = false := fun l n k h => ⟨if_neg (by omega), by unfold numF; simp; omega⟩
  have E4 : Kp ((if 256 ^ 4 ≤ p.id then ([] : List Int) else [] ++ digs p.id 4) = L3 ∧ numF false p.id 4 = false) := ⟨by rw [hL3]; exact ok _ _ _ (by have := HID.out; omega)⟩
  have E8 : Kp ((if 256 ^ 1 ≤ p.at_ then L3 else L3 ++ digs p.at_ 1) = L4 ∧ numF false p.at_ 1 = false) := ⟨by rw [hL4]; exact ok _ _ _ (by have := HR.out; omega)⟩
  have E12 : Kp ((if 256 ^ 1 ≤ p.many then L4 else L4 ++ digs p.many 1) = L5 ∧ numF false p.many 1 = false) := ⟨by rw [hL5]; exact ok _ _ _ (by have := HR.out; omega)⟩
  have E15 : Kp ((if 4096 < tp.length then L5 else L5 ++ digs tp.length 2 ++ tp) = PM ∧ (false || decide (4096 < tp.length)) = false) := ⟨by
    have := HNT.out
    rw [if_neg (by omega), hPM, hL5, hL4, hL3]
    exact ⟨by unfold putM; simp, by simp; omega⟩⟩
  have HPM := Kp.mk hPM
  clear h hn hid ok hL3 hL4 hL5 hPM
  go_enter Try.func44, Try.ntmps44
  go_wp2_with fail
  refine (rright_any p _).mono ?_
  rintro r w1 ⟨rfl, hb⟩
  obtain ⟨F, hF⟩ : ∃ F, F = w.heap.size := ⟨_, rfl⟩
  have HFe := Kp.mk hF
  have HB1 : Kp (Below F w w1) := ⟨by rw [hF]; exact (more (Below.refl _ _) _).trans (hb.mono (by simp))⟩
  have HP1 : Kp (Blk w1 F (.cells #[.int .u32 p.id, .int .i64 p.at_, .int .i64 p.many, .slice p.a p.n p.c] 109)) := ⟨(Blk.newAt _ hF).keep hb⟩
  have HT1 : Kp (HoldsB w1 F (.slice p.a p.n p.c) tp) := ⟨by rw [hF]; exact (H.out.alloc _).keep hb⟩
  rw [← hF, hr]
  clear hb hF hr
  go_wp2_with fail
  refine wp_region_pred (fun w' => Blk w' F (.cells #[.int .u32 p.id, .int .i64 p.at_, .int .i64 p.many, .slice p.a p.n p.c] 109) ∧ HoldsB w' F (.slice p.a p.n p.c) tp ∧ Below F w w') [0, 1, 2, 3, 4, 5, 6, 7, 8, 9, 10, 11, 12, 13, 14, 15, 16] [17, 18]
    (fun ι w' v => match ι with
      | 0 => v = .agg #[.slice none 0 0, .bool false]
      | 1 => v = .pointer (some ⟨F, 0, none⟩)
      | 2 => v = .int .u32 p.id
      | 3 => v = .int .u64 p.id
      | 5 => v = .pointer (some ⟨F, 1, none⟩)
      | 6 => v = .int .i64 p.at_
      | 7 => v = .int .u64 p.at_
      | 9 => v = .pointer (some ⟨F, 2, none⟩)
      | 10 => v = .int .i64 p.many
      | 11 => v = .int .u64 p.many
      | 13 => v = .pointer (some ⟨F, 3, none⟩)
      | 14 => v = .slice p.a p.n p.c
      | 4 => ∃ u, v = routV u false ∧ HoldsB w' w'.heap.size u L3
      | 8 => ∃ u, v = routV u false ∧ HoldsB w' w'.heap.size u L4
      | 12 => ∃ u, v = routV u false ∧ HoldsB w' w'.heap.size u L5
      | 15 => ∃ u, v = routV u false ∧ HoldsB w' w'.heap.size u PM
      | 16 => HoldsB w' w'.heap.size v PM
      | _ => v = .bool true)
    [[], [], [(1, some 8)], [(2, some 9)], [(0, some 7), (3, some 10)], [], [(5, some 12)], [(6, some 13)], [(4, some 11), (7, some 14)], [], [(9, some 16)], [(10, some 17)], [(8, some 15), (11, some 18)], [], [(13, some 20)], [(12, some 19), (14, some 21)], [(15, some 22)]]
    [(0, some 7), (1, some 8), (2, some 9), (3, some 10), (4, some 11), (5, some 12), (6, some 13), (7, some 14), (8, some 15), (9, some 16), (10, some 17), (11, some 18), (12, some 19), (13, some 20), (14, some 21), (15, some 22), (16, some 23)]
    (by kernel_rfl) (by kernel_rfl) (by kernel_rfl) (by kernel_rfl) (by kernel_rfl) (by kernel_rfl) (by decide) (by decide) (fun w1 w2 h hb => ⟨h.1.keep hb, h.2.1.keep hb, h.2.2.trans (hb.mono (Nat.le_of_lt h.1.lt))⟩) ?_ ⟨HP1.out.keep (Below.refl _ _).drew, HT1.out.keep (Below.refl _ _).drew, HB1.out.drew⟩ ?_ ?_
  · intro ι w1 w2 v h hb
    by_cases h4 : ι = 4
    · subst h4
      exact (by obtain ⟨u, e, hg⟩ := h; exact ⟨u, e, hg.grow hb⟩)
    by_cases h8 : ι = 8
    · subst h8
      exact (by obtain ⟨u, e, hg⟩ := h; exact ⟨u, e, hg.grow hb⟩)
    by_cases h12 : ι = 12
    · subst h12
      exact (by obtain ⟨u, e, hg⟩ := h; exact ⟨u, e, hg.grow hb⟩)
    by_cases h15 : ι = 15
    · subst h15
      exact (by obtain ⟨u, e, hg⟩ := h; exact ⟨u, e, hg.grow hb⟩)
    by_cases h16 : ι = 16
    · subst h16
      exact h.grow hb
    match ι, h4, h8, h12, h15, h16, h with
    | 0, _, _, _, _, _, h => exact h
    | 1, _, _, _, _, _, h => exact h
    | 2, _, _, _, _, _, h => exact h
    | 3, _, _, _, _, _, h => exact h
    | 4, g, _, _, _, _, h => exact absurd rfl g
    | 5, _, _, _, _, _, h => exact h
    | 6, _, _, _, _, _, h => exact h
    | 7, _, _, _, _, _, h => exact h
    | 8, _, g, _, _, _, h => exact absurd rfl g
    | 9, _, _, _, _, _, h => exact h
    | 10, _, _, _, _, _, h => exact h
    | 11, _, _, _, _, _, h => exact h
    | 12, _, _, g, _, _, h => exact absurd rfl g
    | 13, _, _, _, _, _, h => exact h
    | 14, _, _, _, _, _, h => exact h
    | 15, _, _, _, g, _, h => exact absurd rfl g
    | 16, _, _, _, _, g, h => exact absurd rfl g
    | _ + 17, _, _, _, _, _, h => exact h
  · refine ⟨fun γ wx hS h => ?_, fun γ wx hS h => ?_, fun γ wx hS h => ?_, fun γ wx hS h => ?_, fun γ wx hS h => ?_, fun γ wx hS h => ?_, fun γ wx hS h => ?_, fun γ wx hS h => ?_, fun γ wx hS h => ?_, fun γ wx hS h => ?_, fun γ wx hS h => ?_, fun γ wx hS h => ?_, fun γ wx hS h => ?_, fun γ wx hS h => ?_, fun γ wx hS h => ?_, fun γ wx hS h => ?_, fun γ wx hS h => ?_, trivial⟩
    · refine ⟨_, rfl, ?_⟩
      refine predOp_val (v := .agg #[.slice none 0 0, .bool false]) ?_ ?_ ?_
      · kernel_rfl
      · simp only [putE]
        go_simp
      · rfl
    · refine ⟨_, rfl, ?_⟩
      refine predOp_val (v := .pointer (some ⟨F, 0, none⟩)) ?_ ?_ ?_
      · kernel_rfl
      · simp only [putE]
        go_simp
      · rfl
    · have h1 := h
      have e1 : γ 1 = .pointer (some ⟨F, 0, none⟩) := h1
      have hcell : wx.cell? ⟨F, 0, none⟩ = some (.int .u32 p.id) := hS.1.cell 0
      refine ⟨_, rfl, ?_⟩
      refine predOp_val (v := .int .u32 p.id) ?_ ?_ ?_
      · kernel_rfl
      · simp only [putE, e1]
        go_simp
      · rfl
    · have h2 := h
      have e2 : γ 2 = .int .u32 p.id := h2
      have hq := hw1
      refine ⟨_, rfl, ?_⟩
      refine predOp_val (v := .int .u64 p.id) ?_ ?_ ?_
      · kernel_rfl
      · simp only [putE, e2]
        go_simp
      · rfl
    · obtain ⟨h0, h3⟩ := h
      have e0 : γ 0 = .agg #[.slice none 0 0, .bool false] := h0
      have e3 : γ 3 = .int .u64 p.id := h3
      refine ⟨_, rfl, Or.inl ⟨rfl, predRun_call (f := 46) (args := #[routV (.slice none 0 0) false, .int .u64 p.id, .int .i64 (4 : Nat)]) (by simp only [putE, e0, e3]; go_simp) ?_⟩⟩
      exact (rnum_any _ (.slice none 0 0) _ false p.id 4 wx (HoldsB.nil _ _) (Nat.le_refl _) HID.out.1 (by have := HID.out; omega) (by decide) (by decide)).mono fun r w9 ⟨v', h1, h2, _, h4⟩ => ⟨_, h1, ⟨v', by rw [E4.out.2], by rw [← E4.out.1]; exact h2⟩, h4⟩
    · refine ⟨_, rfl, ?_⟩
      refine predOp_val (v := .pointer (some ⟨F, 1, none⟩)) ?_ ?_ ?_
      · kernel_rfl
      · simp only [putE]
        go_simp
      · rfl
    · have h5 := h
      have e5 : γ 5 = .pointer (some ⟨F, 1, none⟩) := h5
      have hcell : wx.cell? ⟨F, 1, none⟩ = some (.int .i64 p.at_) := hS.1.cell 1
      refine ⟨_, rfl, ?_⟩
      refine predOp_val (v := .int .i64 p.at_) ?_ ?_ ?_
      · kernel_rfl
      · simp only [putE, e5]
        go_simp
      · rfl
    · have h6 := h
      have e6 : γ 6 = .int .i64 p.at_ := h6
      have hq := hw2
      refine ⟨_, rfl, ?_⟩
      refine predOp_val (v := .int .u64 p.at_) ?_ ?_ ?_
      · kernel_rfl
      · simp only [putE, e6]
        go_simp
      · rfl
    · obtain ⟨h4, h7⟩ := h
      have p4 : ∃ u, (γ 4) = routV u false ∧ HoldsB wx wx.heap.size u L3 := h4
      have e7 : γ 7 = .int .u64 p.at_ := h7
      obtain ⟨u, e4, hu⟩ := p4
      refine ⟨_, rfl, Or.inl ⟨rfl, predRun_call (f := 46) (args := #[routV u false, .int .u64 p.at_, .int .i64 (1 : Nat)]) (by simp only [putE, e7]; go_simp) ?_⟩⟩
      exact (rnum_any _ u _ false p.at_ 1 wx hu (Nat.le_refl _) HR.out.2.2.1 (by have := HR.out; omega) (by decide) (by rw [H3.out]; decide)).mono fun r w9 ⟨v', h1, h2, _, h4⟩ => ⟨_, h1, ⟨v', by rw [E8.out.2], by rw [← E8.out.1]; exact h2⟩, h4⟩
    · refine ⟨_, rfl, ?_⟩
      refine predOp_val (v := .pointer (some ⟨F, 2, none⟩)) ?_ ?_ ?_
      · kernel_rfl
      · simp only [putE]
        go_simp
      · rfl
    · have h9 := h
      have e9 : γ 9 = .pointer (some ⟨F, 2, none⟩) := h9
      have hcell : wx.cell? ⟨F, 2, none⟩ = some (.int .i64 p.many) := hS.1.cell 2
      refine ⟨_, rfl, ?_⟩
      refine predOp_val (v := .int .i64 p.many) ?_ ?_ ?_
      · kernel_rfl
      · simp only [putE, e9]
        go_simp
      · rfl
    · have h10 := h
      have e10 : γ 10 = .int .i64 p.many := h10
      have hq := hw3
      refine ⟨_, rfl, ?_⟩
      refine predOp_val (v := .int .u64 p.many) ?_ ?_ ?_
      · kernel_rfl
      · simp only [putE, e10]
        go_simp
      · rfl
    · obtain ⟨h8, h11⟩ := h
      have p8 : ∃ u, (γ 8) = routV u false ∧ HoldsB wx wx.heap.size u L4 := h8
      have e11 : γ 11 = .int .u64 p.many := h11
      obtain ⟨u, e8, hu⟩ := p8
      refine ⟨_, rfl, Or.inl ⟨rfl, predRun_call (f := 46) (args := #[routV u false, .int .u64 p.many, .int .i64 (1 : Nat)]) (by simp only [putE, e11]; go_simp) ?_⟩⟩
      exact (rnum_any _ u _ false p.many 1 wx hu (Nat.le_refl _) (by have := HR.out; omega) (by have := HR.out; omega) (by decide) (by rw [H4.out]; decide)).mono fun r w9 ⟨v', h1, h2, _, h4⟩ => ⟨_, h1, ⟨v', by rw [E12.out.2], by rw [← E12.out.1]; exact h2⟩, h4⟩
    · refine ⟨_, rfl, ?_⟩
      refine predOp_val (v := .pointer (some ⟨F, 3, none⟩)) ?_ ?_ ?_
      · kernel_rfl
      · simp only [putE]
        go_simp
      · rfl
    · have h13 := h
      have e13 : γ 13 = .pointer (some ⟨F, 3, none⟩) := h13
      have hcell : wx.cell? ⟨F, 3, none⟩ = some (.slice p.a p.n p.c) := hS.1.cell 3
      refine ⟨_, rfl, ?_⟩
      refine predOp_val (v := .slice p.a p.n p.c) ?_ ?_ ?_
      · kernel_rfl
      · simp only [putE, e13]
        go_simp
      · rfl
    · obtain ⟨h12, h14⟩ := h
      have p12 : ∃ u, (γ 12) = routV u false ∧ HoldsB wx wx.heap.size u L5 := h12
      have e14 : γ 14 = .slice p.a p.n p.c := h14
      obtain ⟨u, e12, hu⟩ := p12
      refine ⟨_, rfl, Or.inl ⟨rfl, predRun_call (f := 67) (args := #[routV u false, .slice p.a p.n p.c]) (by simp only [putE, e14]; go_simp) ?_⟩⟩
      exact (roblob_any wx.heap.size u _ L5 tp false wx hu (hS.2.1.mono (Nat.le_of_lt hS.1.lt)) (Nat.le_refl _) (by rw [H5.out]; decide)).mono fun r w9 ⟨v', h1, h2, _, h4⟩ => ⟨_, h1, ⟨v', by rw [E15.out.2], by rw [← E15.out.1]; exact h2⟩, h4⟩
    · have h15 := h
      have p15 : ∃ u, (γ 15) = routV u false ∧ HoldsB wx wx.heap.size u PM := h15
      obtain ⟨u, e15, hu⟩ := p15
      refine ⟨_, rfl, ?_⟩
      refine predOp_val (v := u) ?_ ?_ ?_
      · kernel_rfl
      · have hf : (Instr.field 112 (routV u false) 0).run Try.prog wx = .ok u wx := by rfl
        simp only [putE, e15]
        go_simp
      · exact hu
  · intro γ w9 hS h
    have h16 : HoldsB w9 w9.heap.size (γ 16) PM := h.2.2.2.2.2.2.2.2.2.2.2.2.2.2.2.2
    simp only [putE, Act.put, List.setIfInBounds_toArray, List.set_cons_zero, List.set_cons_succ]
    have HV := Kp.mk h16
    have HS3 := Kp.mk hS.2.2
    clear h hS h16
    generalize γ 16 = vv at *
    obtain ⟨va, vn, vc, rfl, -⟩ := HV.out.slice
    refine wpOps_step rfl rfl ?_
    go_simp
    refine wpOps_step rfl rfl ?_
    go_simp
    refine wpOps_done ?_
    go_wp2_with fail
    exact bodyPost_ret (results_tmp2 rfl _ _ _) rfl ⟨_, rfl, by rw [← HPM.out]; exact HV.out, by rw [← HFe.out]; exact HS3.out⟩
end Go.Proofs.Ytioeaknhcfkfcaa

namespace Go.Proofs.Ytioeaknhcfkfcaa
open Go.RowKit

abbrev inObj (v : Value) (e : Int) : Obj := .cells #[v, .int .i64 e] 124
/-- In block I stands an In whose bytes l lie below M, with the error e. -/
structure InIs (w : World) (M I : Nat) (l : List Int) (e : Int) : Prop where
  le : M ≤ I
  is : ∃ v, HoldsB w M v l ∧ Blk w I (inObj v e)
  none : e ≠ 0 → l = []
/-- What a call on In makes of it. -/
structure InStep (M I : Nat) (l' : List Int) (e' : Int) (w w' : World) : Prop where
  is : InIs w' M I l' e'
  turn : ∃ o, Turn I o w w'

theorem InIs.keep {w w' : World} {M I : Nat} {l : List Int} {e : Int} (h : InIs w M I l e) (hb : Below w.heap.size w w') : InIs w' M I l e := by
  obtain ⟨h1, ⟨v, hv, hB⟩, h3⟩ := h
  exact ⟨h1, ⟨v, hv.keep hb, hB.keep hb⟩, h3⟩
theorem InIs.turn {w w' : World} {M I b : Nat} {o : Obj} {l : List Int} {e : Int} (h : InIs w M I l e) (hb : Turn b o w w') (hM : M ≤ b) (hne : I ≠ b) : InIs w' M I l e := by
  obtain ⟨h1, ⟨v, hv, hB⟩, h3⟩ := h
  exact ⟨h1, ⟨v, hv.turn hb hM, hb.keep hB hne⟩, h3⟩
theorem InIs.lt {w : World} {M I : Nat} {l : List Int} {e : Int} (h : InIs w M I l e) : I < w.heap.size := by
  obtain ⟨_, ⟨v, hv, hB⟩, _⟩ := h
  exact hB.lt
theorem InIs.len {w : World} {M I : Nat} {l : List Int} {e : Int} (h : InIs w M I l e) : l.length ≤ maxLen := by
  obtain ⟨_, ⟨v, hv, hB⟩, _⟩ := h
  exact hv.len
theorem InStep.same {w : World} {M I : Nat} {l : List Int} {e : Int} (h : InIs w M I l e) : InStep M I l e w w := by
  obtain ⟨h1, ⟨v, hv, hB⟩, h3⟩ := h
  exact ⟨⟨h1, ⟨v, hv, hB⟩, h3⟩, _, Turn.same hB⟩
theorem InStep.trans {w w1 w2 : World} {M I : Nat} {l l' : List Int} {e e' : Int} (h : InStep M I l e w w1) (k : InStep M I l' e' w1 w2) : InStep M I l' e' w w2 := by
  obtain ⟨_, o, ho⟩ := h
  obtain ⟨h2, o', ho'⟩ := k
  exact ⟨h2, o', ho.trans ho'⟩
theorem InStep.more {w w1 w2 : World} {M I : Nat} {l : List Int} {e : Int} (h : InStep M I l e w w1) (k : Below w1.heap.size w1 w2) : InStep M I l e w w2 := by
  obtain ⟨h1, o, ho⟩ := h
  exact ⟨h1.keep k, o, ho.more k⟩
theorem InStep.ahead {w w1 w2 : World} {M I : Nat} {l : List Int} {e : Int} (h : Below w.heap.size w w1) (k : InStep M I l e w1 w2) : InStep M I l e w w2 := by
  obtain ⟨h1, o, ho⟩ := k
  exact ⟨h1, o, ho.ahead h⟩

theorem InIs.drew {w : World} {M I : Nat} {l : List Int} {e : Int} (h : InIs w M I l e) : InIs w.drew M I l e := ⟨h.le, h.is, h.none⟩
theorem InStep.undrew {w w' : World} {M I : Nat} {l : List Int} {e : Int} (h : InStep M I l e w.drew w') : InStep M I l e w w' := by
  obtain ⟨h1, o, ho⟩ := h
  exact ⟨h1, o, ho.os, ho.tape, ho.output, ho.size, ho.blk, ho.other⟩
theorem InIs.upto {w w' : World} {M I B : Nat} {l : List Int} {e : Int} (h : InIs w M I l e) (k : Below B w w') (hB : I < B) : InIs w' M I l e := by
  obtain ⟨h1, ⟨v, hv, hb⟩, h3⟩ := h
  exact ⟨h1, ⟨v, hv.frame k.size fun i hi _ => k.block i (by omega), hb.upto k hB⟩, h3⟩
theorem InStep.upto {w w1 w2 : World} {M I B : Nat} {l : List Int} {e : Int} (h : InStep M I l e w w1) (k : Below B w1 w2) (hB : w.heap.size ≤ B) (hI : I < w.heap.size) : InStep M I l e w w2 := by
  obtain ⟨h1, o, ho⟩ := h
  exact ⟨h1.upto k (by omega), o, ho.upto k hB hI⟩
theorem InStep.size {w w1 : World} {M I : Nat} {l : List Int} {e : Int} (h : InStep M I l e w w1) : w.heap.size ≤ w1.heap.size := by
  obtain ⟨h1, o, ho⟩ := h
  exact ho.size
theorem InStep.keep {w w1 : World} {M I b : Nat} {l : List Int} {e : Int} {o : Obj} (h : InStep M I l e w w1) (hb : Blk w b o) (hne : b ≠ I) : Blk w1 b o := by
  obtain ⟨h1, o, ho⟩ := h
  exact ho.keep hb hne

set_option maxHeartbeats 400000 in
theorem left_any (M I : Nat) (l : List Int) (e : Int) (w : World) (h : InIs w M I l e) :
    Calls Try.prog 60 #[.pointer (some ⟨I, 0, none⟩)] w fun r w' => r = .returned (.int .i64 l.length) ∧ w = w' := by
  obtain ⟨_, ⟨v, hv, hB⟩, _⟩ := h
  obtain ⟨c0, c1, -⟩ := hB.two
  obtain ⟨a, cap, rfl, h2, h3, -⟩ := hv
  unfold maxLen at h3
  have h4 : l.length ≤ 9223372036854775807 := by omega
  clear hB h2 h3
  go_enter Try.func60, Try.ntmps60
  go_wp2_with fail
  go_ret
  exact ⟨rfl, rfl⟩

set_option maxHeartbeats 400000 in
theorem err_any (M I : Nat) (l : List Int) (e : Int) (w : World) (h : InIs w M I l e) :
    Calls Try.prog 61 #[.pointer (some ⟨I, 0, none⟩)] w fun r w' => r = .returned (.int .i64 e) ∧ w = w' := by
  obtain ⟨_, ⟨v, hv, hB⟩, _⟩ := h
  obtain ⟨c0, c1, -⟩ := hB.two
  clear hB hv
  go_enter Try.func61, Try.ntmps61
  go_wp2_with fail
  go_ret
  exact ⟨rfl, rfl⟩

/-- What Fail makes of the bytes and the error. -/
def failL (l : List Int) (e f : Int) : List Int := if e = 0 ∧ f ≠ 0 then [] else l
def failE (e f : Int) : Int := if e = 0 ∧ f ≠ 0 then f else e

theorem failL_no {l : List Int} {e f : Int} (h : e ≠ 0 ∨ f = 0) : failL l e f = l := if_neg (by omega)
theorem failE_no {e f : Int} (h : e ≠ 0 ∨ f = 0) : failE e f = e := if_neg (by omega)
theorem failL_yes {l : List Int} {e f : Int} (h : e = 0) (h2 : f ≠ 0) : failL l e f = [] := if_pos ⟨h, h2⟩
theorem failE_yes {e f : Int} (h : e = 0) (h2 : f ≠ 0) : failE e f = f := if_pos ⟨h, h2⟩

set_option maxHeartbeats 400000 in
theorem fail_any (M I : Nat) (l : List Int) (e f : Int) (w : World) (h : InIs w M I l e) :
    Calls Try.prog 32 #[.pointer (some ⟨I, 0, none⟩), .int .i64 f] w fun r w' => r = .returned (.tuple #[]) ∧ InStep M I (failL l e f) (failE e f) w w' := by
  have H := Lib.hid h
  have hM := h.le
  obtain ⟨_, ⟨v, hv, hB⟩, _⟩ := h
  obtain ⟨c0, c1, f0, f1⟩ := hB.two
  have HB := Lib.hid hB
  have lI := hB.lt
  clear hB hv
  by_cases he : e = 0
  · by_cases hf : f = 0
    · have HP : Hid (InStep M I (failL l e f) (failE e f) w w) := by
        unfold Hid
        rw [failL_no (.inr hf), failE_no (.inr hf)]
        exact InStep.same H.out
      have t0 : (e == 0) = true := by simp [he]
      have t1 : (f == 0) = true := by simp [hf]
      clear he hf
      go_enter Try.func32, Try.ntmps32
      go_wp2_with fail
      go_end0
      exact ⟨rfl, HP.out⟩
    · have HP : Hid (InStep M I (failL l e f) (failE e f) w ((w.setCell ⟨I, 0, none⟩ (.slice none 0 0)).setCell ⟨I, 1, none⟩ (.int .i64 f))) := by
        unfold Hid
        rw [failL_yes he hf, failE_yes he hf]
        have hT : Turn I (inObj (.slice none 0 0) f) w ((w.setCell ⟨I, 0, none⟩ (.slice none 0 0)).setCell ⟨I, 1, none⟩ (.int .i64 f)) := (((Turn.same HB.out).set 0 _).set 1 _).as rfl
        exact ⟨⟨hM, ⟨_, HoldsB.nil _ _, hT.blk⟩, fun _ => rfl⟩, _, hT⟩
      have t0 : (e == 0) = true := by simp [he]
      have t1 : (f == 0) = false := by simp [hf]
      clear he hf
      go_enter Try.func32, Try.ntmps32
      go_wp2_with fail
      go_end0
      exact ⟨rfl, HP.out⟩
  · have HP : Hid (InStep M I (failL l e f) (failE e f) w w) := by
      unfold Hid
      rw [failL_no (.inl he), failE_no (.inl he)]
      exact InStep.same H.out
    have t0 : (e == 0) = false := by simp [he]
    clear he
    go_enter Try.func32, Try.ntmps32
    go_wp2_with fail
    go_end0
    exact ⟨rfl, HP.out⟩

/-- What next makes of the bytes and the error, and what it answers. -/
def nextE (l : List Int) (e : Int) (k : Nat) : Int := if e = 0 ∧ l.length < k then 9 else e
def nextL (l : List Int) (e : Int) (k : Nat) : List Int := if e = 0 ∧ k ≤ l.length then l.drop k else []
def nextP (l : List Int) (e : Int) (k : Nat) : List Int := if e = 0 ∧ k ≤ l.length then l.take k else []

set_option maxHeartbeats 1600000 in
theorem next_any (M I : Nat) (l : List Int) (e : Int) (k : Nat) (w : World) (h : InIs w M I l e) (hk : k ≤ 9223372036854775807) :
    Calls Try.prog 70 #[.pointer (some ⟨I, 0, none⟩), .int .i64 k] w fun r w' => ∃ v, r = .returned v ∧ HoldsB w' M v (nextP l e k) ∧ InStep M I (nextL l e k) (nextE l e k) w w' := by
  have H := Lib.hid h
  have hM := h.le
  have hll := h.len
  unfold maxLen at hll
  by_cases hs : l.length < k
  · have H2 : Hid (∀ w', InStep M I (failL l e 9) (failE e 9) w w' → InStep M I (nextL l e k) (nextE l e k) w w' ∧ nextP l e k = []) := by
      intro w' h'
      have h1 : nextL l e k = failL l e 9 := by
        unfold nextL failL
        rw [if_neg (by omega)]
        by_cases he : e = 0
        · rw [if_pos ⟨he, by decide⟩]
        · rw [if_neg (by omega), H.out.none he]
      have h2 : nextE l e k = failE e 9 := by
        unfold nextE failE
        by_cases he : e = 0
        · rw [if_pos ⟨he, hs⟩, if_pos ⟨he, by decide⟩]
        · rw [if_neg (by omega), if_neg (by omega)]
      rw [h1, h2]
      exact ⟨h', by unfold nextP; rw [if_neg (by omega)]⟩
    have HE : Hid (failE e 9 ≠ 0) := by unfold Hid failE; split <;> omega
    have hs' : (l.length : Int) < k := by omega
    clear hs h
    go_enter Try.func70, Try.ntmps70
    go_wp2_with fail
    refine (left_any M I l e _ H.out).mono ?_
    rintro r w1 ⟨rfl, rfl⟩
    go_wp2_with fail
    refine (fail_any M I l e 9 _ H.out).mono ?_
    rintro r w1 ⟨rfl, h1⟩
    have H1 := Lib.hid h1
    clear h1
    go_wp2_with fail
    refine (err_any M I _ _ _ H1.out.is).mono ?_
    rintro r w2 ⟨rfl, rfl⟩
    have t0 : (failE e 9 == 0) = false := by simpa using HE.out
    generalize failE e 9 = q at *
    go_wp2_with fail
    go_ret
    exact ⟨_, rfl, by rw [(H2.out _ H1.out).2]; exact HoldsB.nil _ _, (H2.out _ H1.out).1⟩
  · have hs' : (k : Int) ≤ l.length := by omega
    by_cases he : e = 0
    · obtain ⟨_, ⟨v, hv, hB⟩, _⟩ := h
      obtain ⟨v1, hv1, hp1⟩ := hv.front (k := k) (by omega)
      obtain ⟨v2, hv2, hp2⟩ := hv.back (k := k) (by omega)
      obtain ⟨a2, n2, cap2, rfl, -⟩ := hp2.slice
      obtain ⟨c0, c1, f0, f1⟩ := hB.two
      have lI := hB.lt
      have HP : Hid (HoldsB (w.setCell ⟨I, 0, none⟩ (.slice a2 n2 cap2)) M v1 (nextP l e k) ∧ InStep M I (nextL l e k) (nextE l e k) w (w.setCell ⟨I, 0, none⟩ (.slice a2 n2 cap2))) := by
        have hT : Turn I (inObj (.slice a2 n2 cap2) e) w (w.setCell ⟨I, 0, none⟩ (.slice a2 n2 cap2)) := ((Turn.same hB).set 0 _).as rfl
        unfold Hid nextP nextL nextE
        rw [if_pos ⟨he, by omega⟩, if_pos ⟨he, by omega⟩, if_neg (by omega)]
        exact ⟨hp1.turn hT hM, ⟨hM, ⟨_, hp2.turn hT hM, hT.blk⟩, fun h => absurd he h⟩, _, hT⟩
      have t0 : (e == 0) = true := by simp [he]
      clear hB hp1 hp2 hs he hv
      go_enter Try.func70, Try.ntmps70
      go_wp2_with fail
      refine (left_any M I l e _ H.out).mono ?_
      rintro r w1 ⟨rfl, rfl⟩
      go_wp2_with fail
      refine (err_any M I _ _ _ H.out).mono ?_
      rintro r w2 ⟨rfl, rfl⟩
      go_wp2_with fail
      go_ret
      exact ⟨_, rfl, HP.out⟩
    · have hl := h.none he
      have HP : Hid (HoldsB w M (.slice none 0 0) (nextP l e k) ∧ InStep M I (nextL l e k) (nextE l e k) w w) := by
        unfold Hid nextP nextL nextE
        rw [if_neg (by omega), if_neg (by omega), if_neg (by omega)]
        exact ⟨HoldsB.nil _ _, hl ▸ InStep.same h⟩
      have t0 : (e == 0) = false := by simp [he]
      clear hs he h hl
      go_enter Try.func70, Try.ntmps70
      go_wp2_with fail
      refine (left_any M I l e _ H.out).mono ?_
      rintro r w1 ⟨rfl, rfl⟩
      go_wp2_with fail
      refine (err_any M I _ _ _ H.out).mono ?_
      rintro r w2 ⟨rfl, rfl⟩
      go_wp2_with fail
      go_ret
      exact ⟨_, rfl, HP.out⟩
end Go.Proofs.Ytioeaknhcfkfcaa

namespace Go.Proofs.Ytioeaknhcfkfcaa
open Go.RowKit

/-- The number whose bytes are these, the highest first. -/
def numOf (l : List Int) : Int := l.foldl (fun n b => (n * 256 + b) % 18446744073709551616) 0
theorem numOf_nil : numOf [] = 0 := rfl
theorem numOf_snoc (l : List Int) (b : Int) : numOf (l ++ [b]) = (numOf l * 256 + b) % 18446744073709551616 := by
  unfold numOf; rw [List.foldl_append]; rfl
theorem numOf_take {l : List Int} {i : Nat} (h : i < l.length) : numOf (l.take (i + 1)) = (numOf (l.take i) * 256 + l.getD i 0) % 18446744073709551616 := by
  rw [List.take_succ_eq_append_getElem h, numOf_snoc, List.getD_eq_getElem?_getD, List.getElem?_eq_getElem h]; rfl
theorem numOf_range (l : List Int) (hb : Bytes l) : 0 ≤ numOf l ∧ numOf l < 18446744073709551616 := by
  unfold numOf
  suffices h : ∀ (l : List Int) (a : Int), 0 ≤ a → a < 18446744073709551616 → 0 ≤ l.foldl (fun n b => (n * 256 + b) % 18446744073709551616) a ∧ l.foldl (fun n b => (n * 256 + b) % 18446744073709551616) a < 18446744073709551616 from h l 0 (by decide) (by decide)
  intro l
  induction l with
  | nil => intro a h1 h2; exact ⟨h1, h2⟩
  | cons b r ih => intro a h1 h2; exact ih _ (Int.emod_nonneg _ (by decide)) (Int.emod_lt_of_pos _ (by decide))
theorem wrap_u64 (a : Int) : IntKind.u64.wrap a = a % 18446744073709551616 := by
  simp [IntKind.wrap, IntKind.bits, IntKind.signed]
theorem or_step (m x : Int) (h0 : 0 ≤ x) (h1 : x ≤ 255) : bits .or .u64 (IntKind.u64.wrap (m * 256)) (IntKind.u64.wrap x) = (m * 256 + x) % 18446744073709551616 := by
  rw [wrap_u64, wrap_u64]
  have hx : x % 18446744073709551616 = x := by omega
  rw [hx, u64_or _ _ (by omega) (by omega) h0 (by omega)]
  obtain ⟨q, hq⟩ : ∃ q : Nat, m * 256 % 18446744073709551616 = ((256 * q : Nat) : Int) := ⟨(m * 256 % 18446744073709551616 / 256).toNat, by omega⟩
  obtain ⟨y, rfl⟩ : ∃ y : Nat, x = y := ⟨x.toNat, by omega⟩
  rw [hq]
  have hor : 256 * q ||| y = 256 * q + y := by
    have := Nat.two_pow_add_eq_or_of_lt (i := 8) (b := y) (by omega) q
    simpa using this.symm
  simp only [Int.toNat_natCast]
  rw [hor]
  omega
theorem add_step (m x : Int) (h0 : 0 ≤ x) (h1 : x ≤ 255) : IntKind.u64.wrap (IntKind.u64.wrap (m * 256) + IntKind.u64.wrap x) = (m * 256 + x) % 18446744073709551616 := by
  rw [wrap_u64, wrap_u64, wrap_u64]
  omega
theorem numOf_one {l : List Int} (h : l.length ≤ 1) (hb : Bytes l) : 0 ≤ numOf l ∧ numOf l ≤ 255 := by
  match l, h with
  | [], _ => decide
  | [a], _ =>
    have := hb a (by simp)
    simp only [numOf, List.foldl_cons, List.foldl_nil]
    omega
theorem numOf_two {l : List Int} (h : l.length ≤ 2) (hb : Bytes l) : 0 ≤ numOf l ∧ numOf l ≤ 65535 := by
  match l, h with
  | [], _ => decide
  | [a], _ =>
    have := hb a (by simp)
    simp only [numOf, List.foldl_cons, List.foldl_nil]
    omega
  | [a, b], _ =>
    have := hb a (by simp)
    have := hb b (by simp)
    simp only [numOf, List.foldl_cons, List.foldl_nil]
    omega
end Go.Proofs.Ytioeaknhcfkfcaa

namespace Go.Proofs.Ytioeaknhcfkfcaa
open Go.RowKit

set_option maxHeartbeats 1600000 in
theorem number_any (M I : Nat) (l : List Int) (e : Int) (k : Nat) (w : World) (h : InIs w M I l e) (hk : k ≤ 8) :
    Calls Try.prog 56 #[.pointer (some ⟨I, 0, none⟩), .int .i64 k] w fun r w' => r = .returned (.int .u64 (numOf (nextP l e k))) ∧ InStep M I (nextL l e k) (nextE l e k) w w' := by
  go_enter Try.func56, Try.ntmps56
  go_wp2_with fail
  refine (next_any M I l e k _ h (by omega)).mono ?_
  rintro r w1 ⟨v, rfl, hp, h1⟩
  have H1 := Lib.hid h1
  have hlen : (nextP l e k).length ≤ 8 := by unfold nextP; split <;> simp <;> omega
  obtain ⟨p, hpe⟩ : ∃ p, nextP l e k = p := ⟨_, rfl⟩
  rw [hpe] at hp hlen
  have HPE := Lib.hid hpe
  clear hpe
  obtain ⟨a, n, cap, rfl, hn⟩ := hp.slice
  have HP := Lib.hid hp
  have HN := Lib.hid hn
  have hn8 : n ≤ 8 := by omega
  clear h h1 hp hn hlen
  go_wp2_with fail
  go_loop [5, 12] (fun m c => ∃ i : Nat, i ≤ n ∧ c = .int .i64 i ∧ m = .int .u64 (numOf (p.take i))) (fun _ c => n - (intOf c).toNat)
  case atStart => exact ⟨0, by omega, rfl, rfl⟩
  case round =>
    obtain ⟨i, hi, rfl, rfl⟩ := hrel
    by_cases hlt : i < n
    · obtain ⟨b, off, rfl, -, hc⟩ := HP.out.cellAt (i := i) (by have := HN.out; omega)
      have hx := HP.out.bytes.at (i := i) (by have := HN.out; omega)
      have HX : Hid (numOf (p.take (i + 1)) = (numOf (p.take i) * 256 + p.getD i 0) % 18446744073709551616) := numOf_take (by have := HN.out; omega)
      generalize p.getD i 0 = x at *
      have HS := Lib.hid (or_step (numOf (p.take i)) x hx.1 hx.2)
      clear hx
      go_wp2_with fail
      exact ⟨⟨i + 1, by omega, by go_num, by rw [HX.out, HS.out]⟩, by simp [intOf]; omega⟩
    · obtain rfl : i = n := by omega
      have hz : Hid (numOf (p.take i) = numOf (nextP l e k)) := by unfold Hid; rw [HPE.out, HN.out, List.take_length]
      go_wp2_with fail
      go_ret
      exact ⟨reti hz.out, H1.out⟩

theorem u8_any (M I : Nat) (l : List Int) (e : Int) (w : World) (h : InIs w M I l e) :
    Calls Try.prog 31 #[.pointer (some ⟨I, 0, none⟩)] w fun r w' => r = .returned (.int .u64 (numOf (nextP l e 1))) ∧ InStep M I (nextL l e 1) (nextE l e 1) w w' := by
  go_enter Try.func31, Try.ntmps31
  go_wp2_with fail
  refine (number_any M I l e 1 _ h (by omega)).mono ?_
  rintro r w1 ⟨rfl, h1⟩
  go_wp2_with fail
  go_ret
  exact ⟨rfl, h1⟩
theorem u32_any (M I : Nat) (l : List Int) (e : Int) (w : World) (h : InIs w M I l e) :
    Calls Try.prog 57 #[.pointer (some ⟨I, 0, none⟩)] w fun r w' => r = .returned (.int .u64 (numOf (nextP l e 4))) ∧ InStep M I (nextL l e 4) (nextE l e 4) w w' := by
  go_enter Try.func57, Try.ntmps57
  go_wp2_with fail
  refine (number_any M I l e 4 _ h (by omega)).mono ?_
  rintro r w1 ⟨rfl, h1⟩
  go_wp2_with fail
  go_ret
  exact ⟨rfl, h1⟩
end Go.Proofs.Ytioeaknhcfkfcaa

namespace Go.Proofs.Ytioeaknhcfkfcaa
open Go.RowKit

theorem nextP_len (l : List Int) (e : Int) (k : Nat) : (nextP l e k).length ≤ k := by unfold nextP; split <;> simp <;> omega
theorem nextP_bytes {l : List Int} (h : Bytes l) (e : Int) (k : Nat) : Bytes (nextP l e k) := by
  unfold nextP
  split
  · exact h.take k
  · exact Bytes.nil
theorem InIs.bytes {w : World} {M I : Nat} {l : List Int} {e : Int} (h : InIs w M I l e) : Bytes l := by
  obtain ⟨_, ⟨v, hv, _⟩, _⟩ := h
  exact hv.bytes

/-- What many answers, and what it makes of the bytes and the error. -/
def manyB (l : List Int) (e : Int) (k : Nat) (most : Int) : Bool := decide ((if most < 0 then 0 else most) < numOf (nextP l e k))
def manyR (l : List Int) (e : Int) (k : Nat) (most : Int) : Int := if manyB l e k most then 0 else numOf (nextP l e k)
def manyL (l : List Int) (e : Int) (k : Nat) (most : Int) : List Int := if manyB l e k most then failL (nextL l e k) (nextE l e k) 8 else nextL l e k
def manyE (l : List Int) (e : Int) (k : Nat) (most : Int) : Int := if manyB l e k most then failE (nextE l e k) 8 else nextE l e k

set_option maxHeartbeats 8000000 in
theorem many_any (M I : Nat) (l : List Int) (e : Int) (k : Nat) (most : Int) (w : World) (h : InIs w M I l e) (hk : k ≤ 2) (hm0 : -9223372036854775808 ≤ most) (hm1 : most ≤ 9223372036854775807) :
    Calls Try.prog 71 #[.pointer (some ⟨I, 0, none⟩), .int .i64 k, .int .i64 most] w fun r w' => r = .returned (.int .i64 (manyR l e k most)) ∧ InStep M I (manyL l e k most) (manyE l e k most) w w' := by
  have hn := numOf_two (l := nextP l e k) (by have := nextP_len l e k; omega) (nextP_bytes h.bytes e k)
  by_cases hb : manyB l e k most = true
  · have HR : Hid (manyR l e k most = 0) := by unfold Hid manyR; rw [if_pos hb]
    have HL : Hid (manyL l e k most = failL (nextL l e k) (nextE l e k) 8) := by unfold Hid manyL; rw [if_pos hb]
    have HE : Hid (manyE l e k most = failE (nextE l e k) 8) := by unfold Hid manyE; rw [if_pos hb]
    have hb' : (if most < 0 then 0 else most) < numOf (nextP l e k) := of_decide_eq_true hb
    obtain ⟨m, hm⟩ : ∃ m, numOf (nextP l e k) = m := ⟨_, rfl⟩
    rw [hm] at hb' hn
    have HM := Lib.hid hm
    clear hm hb
    by_cases hmn : most < 0
    all_goals
      first | (rw [if_pos hmn] at hb') | (rw [if_neg hmn] at hb')
      go_enter Try.func71, Try.ntmps71
      go_wp2_with fail
      refine (number_any M I l e k _ h (by omega)).mono ?_
      rintro r w1 ⟨rfl, h1⟩
      rw [HM.out]
      have H1 := Lib.hid h1
      clear h h1
      go_wp2_with fail
      refine (fail_any M I _ _ 8 _ H1.out.is).mono ?_
      rintro r w2 ⟨rfl, h2⟩
      have H2 := Lib.hid h2
      clear h2
      go_wp2_with fail
      go_ret
      exact ⟨reti HR.out.symm, by rw [HL.out, HE.out]; exact H1.out.trans H2.out⟩
  · have hb' : manyB l e k most = false := by simpa using hb
    have HL : Hid (manyL l e k most = nextL l e k) := by unfold Hid manyL; rw [if_neg hb]
    have HE : Hid (manyE l e k most = nextE l e k) := by unfold Hid manyE; rw [if_neg hb]
    have hb2 : ¬ (if most < 0 then 0 else most) < numOf (nextP l e k) := of_decide_eq_false hb'
    obtain ⟨m, hm⟩ : ∃ m, numOf (nextP l e k) = m := ⟨_, rfl⟩
    have HR : Hid (manyR l e k most = m) := by unfold Hid manyR; rw [if_neg hb, hm]
    rw [hm] at hb2 hn
    have HM := Lib.hid hm
    clear hm hb hb'
    by_cases hmn : most < 0
    all_goals
      first | (rw [if_pos hmn] at hb2) | (rw [if_neg hmn] at hb2)
      go_enter Try.func71, Try.ntmps71
      go_wp2_with fail
      refine (number_any M I l e k _ h (by omega)).mono ?_
      rintro r w1 ⟨rfl, h1⟩
      rw [HM.out]
      have H1 := Lib.hid h1
      clear h h1
      go_wp2_with fail
      go_ret
      exact ⟨reti HR.out.symm, by rw [HL.out, HE.out]; exact H1.out⟩

/-- A number of things to take. -/
theorem manyR_range {l : List Int} {e : Int} {k : Nat} {most : Int} (h : Bytes l) (hk : k ≤ 2) : 0 ≤ manyR l e k most ∧ manyR l e k most ≤ 65535 := by
  have hn := numOf_two (l := nextP l e k) (by have := nextP_len l e k; omega) (nextP_bytes h e k)
  unfold manyR
  split <;> omega
theorem InStep.bytes {w w' : World} {M I : Nat} {l : List Int} {e : Int} (h : InStep M I l e w w') : Bytes l := h.is.bytes

/-- What Blob answers. -/
def blobN (l : List Int) (e : Int) (most : Int) : Nat := (manyR l e 2 (if 4096 < most then 4096 else most)).toNat
def blobP (l : List Int) (e : Int) (most : Int) : List Int := nextP (manyL l e 2 (if 4096 < most then 4096 else most)) (manyE l e 2 (if 4096 < most then 4096 else most)) (blobN l e most)
def blobL (l : List Int) (e : Int) (most : Int) : List Int := nextL (manyL l e 2 (if 4096 < most then 4096 else most)) (manyE l e 2 (if 4096 < most then 4096 else most)) (blobN l e most)
def blobE (l : List Int) (e : Int) (most : Int) : Int := nextE (manyL l e 2 (if 4096 < most then 4096 else most)) (manyE l e 2 (if 4096 < most then 4096 else most)) (blobN l e most)

end Go.Proofs.Ytioeaknhcfkfcaa

namespace Go.Proofs.Ytioeaknhcfkfcaa
open Go.RowKit

set_option maxHeartbeats 800000 in
theorem takeI_any (M : Nat) (v : Value) (l : List Int) (w : World) (h : HoldsB w M v l) (hr : l.length ≤ 140737488351232) :
    Calls Try.prog 30 #[v] w fun r w' => ∃ I, r = .returned (.pointer (some ⟨I, 0, none⟩)) ∧ w.heap.size ≤ I ∧ InIs w' I I l 0 ∧ Below w.heap.size w w' := by
  have HH := Lib.hid h
  obtain ⟨a, n, cap, rfl, hn⟩ := h.slice
  clear h hn
  go_enter Try.func30, Try.ntmps30
  go_wp2_with fail
  refine (clone_anyF M _ l _ HH.out hr).mono ?_
  rintro r w1 ⟨v, rfl, ho, hb⟩
  have HV := Lib.hid (HoldsB.ofRow HH.out.bytes ho)
  have HB := Lib.hid hb
  obtain ⟨a1, n1, cap1, rfl, -⟩ := HV.out.slice
  clear ho hb
  go_wp2_with fail
  go_ret
  exact ⟨w1.heap.size, rfl, HB.out.size, ⟨Nat.le_refl _, ⟨_, HV.out.alloc _, Blk.new _ _⟩, fun h => absurd rfl h⟩, more HB.out _⟩

/-- What End answers. -/
def endE (l : List Int) (e : Int) : Int := if 0 < l.length then failE e 10 else e

set_option maxHeartbeats 800000 in
theorem endI_any (M I : Nat) (l : List Int) (e : Int) (w : World) (h : InIs w M I l e) :
    Calls Try.prog 35 #[.pointer (some ⟨I, 0, none⟩)] w fun r w' => r = .returned (.int .i64 (endE l e)) ∧ ∃ l', InStep M I l' (endE l e) w w' := by
  have HH := Lib.hid h
  clear h
  by_cases hl : 0 < l.length
  · have HE : Hid (endE l e = failE e 10) := by unfold Hid endE; rw [if_pos hl]
    go_enter Try.func35, Try.ntmps35
    go_wp2_with fail
    refine (left_any M I l e _ HH.out).mono ?_
    rintro r w1 ⟨rfl, rfl⟩
    go_wp2_with fail
    refine (fail_any M I l e 10 _ HH.out).mono ?_
    rintro r w1 ⟨rfl, h1⟩
    have H1 := Lib.hid h1
    clear h1
    go_wp2_with fail
    refine (err_any M I _ _ _ H1.out.is).mono ?_
    rintro r w2 ⟨rfl, rfl⟩
    go_wp2_with fail
    go_ret
    exact ⟨reti HE.out.symm, _, by rw [HE.out]; exact H1.out⟩
  · have HE : Hid (endE l e = e) := by unfold Hid endE; rw [if_neg hl]
    have hl' : l.length = 0 := by omega
    have hl2 : (l.length : Int) ≤ 0 := by omega
    clear hl'
    go_enter Try.func35, Try.ntmps35
    go_wp2_with fail
    refine (left_any M I l e _ HH.out).mono ?_
    rintro r w1 ⟨rfl, rfl⟩
    go_wp2_with fail
    refine (err_any M I _ _ _ HH.out).mono ?_
    rintro r w2 ⟨rfl, rfl⟩
    go_wp2_with fail
    go_ret
    exact ⟨reti HE.out.symm, _, by rw [HE.out]; exact InStep.same HH.out⟩
end Go.Proofs.Ytioeaknhcfkfcaa

namespace Go.Proofs.Ytioeaknhcfkfcaa
open Go.RowKit

/-- append to a row of the call's own, as one step of a region that draws its order. -/
theorem step_append_own {P : Program} {ops : Array Oper} {o : Oper} {a : Act} {w : World} {K : Act → World → Prop} {Q : Exit → Act → World → Prop} {E : Prop} (hgd : o.guard = none) (s x : Operand) (t : TypeId)
    (ho : o.op = .call { callee := .builtin .append, args := #[s, x], argTypes := #[t, t] })
    (base : Nat) (e : TypeId) (i : TypeInfo) (z : Value) (size bytes : Nat) (ht : P.underlying t = some (.slice e)) (hi : P.info? e = some i) (hz : i.zero = some z)
    (hsize : i.size = size) (hby : i.bytes = bytes) (hzs : z.cells.size = size) (hsz : 0 < size)
    (v : Value) (n : Nat) (xs : List Value) (hs : a.eval s = v) (hown : w.ownsRow base e size v n xs)
    (ad : Addr) (m c : Nat) (news : List Value) (hx : a.eval x = .slice (some ad) m c) (hl : news.length = m * size) (hnews : ∀ j u, news[j]? = some u → w.cell? (ad.add j) = some u) (h1 : ∀ u ∈ news, u.oneCell' = true)
    (h63 : n + m ≤ maxLen) (hbytes : (n + m) * bytes ≤ 140737488355328) (hbase : base ≤ w.heap.size)
    (h : ∀ v' w', Hid (w'.ownsRow base e size v' (n + m) (xs ++ news)) → Hid (w.grownBy w' v.ownBlock) → K (a.put o.dst v') w') :
    if Region.wanted o (yielded ops a.tmps) = true then Oper.wp P o a w K Q else E := by
  have hw : Region.wanted o (yielded ops a.tmps) = true := by simp [Region.wanted, hgd]
  rw [if_pos hw]
  exact wp_append_own w s x t ho base e i z size bytes ht hi hz hsize hby hzs hsz v n xs hs hown ad m c news hx hl hnews h1 h63 hbytes hbase fun v' w' h2 h3 _ => h v' w' h2 h3

abbrev refObj (v : Value) (at' : Nat) (e : Int) : Obj := .cells #[v, .int .i64 at', .int .i64 e] 92
/-- In block R stands the document's In of the bytes B, at that place, with that error. -/
structure RefIs (w : World) (M R : Nat) (B : List Int) (at' : Nat) (e : Int) : Prop where
  le : M ≤ R
  is : ∃ v, HoldsB w M v B ∧ Blk w R (refObj v at' e)
  at_ : at' ≤ B.length
structure RefStep (M R : Nat) (B : List Int) (at' : Nat) (e : Int) (w w' : World) : Prop where
  is : RefIs w' M R B at' e
  turn : ∃ o, Turn R o w w'
theorem RefIs.keep {w w' : World} {M R at' : Nat} {B : List Int} {e : Int} (h : RefIs w M R B at' e) (hb : Below w.heap.size w w') : RefIs w' M R B at' e := by
  obtain ⟨h1, ⟨v, hv, hB⟩, h3⟩ := h
  exact ⟨h1, ⟨v, hv.keep hb, hB.keep hb⟩, h3⟩
theorem RefIs.turn {w w' : World} {M R at' b : Nat} {o : Obj} {B : List Int} {e : Int} (h : RefIs w M R B at' e) (hb : Turn b o w w') (hM : M ≤ b) (hne : R ≠ b) : RefIs w' M R B at' e := by
  obtain ⟨h1, ⟨v, hv, hB⟩, h3⟩ := h
  exact ⟨h1, ⟨v, hv.turn hb hM, hb.keep hB hne⟩, h3⟩
theorem RefIs.lt {w : World} {M R at' : Nat} {B : List Int} {e : Int} (h : RefIs w M R B at' e) : R < w.heap.size := by
  obtain ⟨_, ⟨v, hv, hB⟩, _⟩ := h
  exact hB.lt
theorem RefIs.len {w : World} {M R at' : Nat} {B : List Int} {e : Int} (h : RefIs w M R B at' e) : B.length ≤ maxLen := by
  obtain ⟨_, ⟨v, hv, hB⟩, _⟩ := h
  exact hv.len
theorem RefIs.bytes {w : World} {M R at' : Nat} {B : List Int} {e : Int} (h : RefIs w M R B at' e) : Bytes B := by
  obtain ⟨_, ⟨v, hv, hB⟩, _⟩ := h
  exact hv.bytes
theorem RefIs.drew {w : World} {M R at' : Nat} {B : List Int} {e : Int} (h : RefIs w M R B at' e) : RefIs w.drew M R B at' e := ⟨h.le, h.is, h.at_⟩
theorem RefStep.same {w : World} {M R at' : Nat} {B : List Int} {e : Int} (h : RefIs w M R B at' e) : RefStep M R B at' e w w := by
  obtain ⟨h1, ⟨v, hv, hB⟩, h3⟩ := h
  exact ⟨⟨h1, ⟨v, hv, hB⟩, h3⟩, _, Turn.same hB⟩
theorem RefStep.below {w w' : World} {M R at' : Nat} {B : List Int} {e : Int} (h : RefIs w M R B at' e) (hb : Below w.heap.size w w') : RefStep M R B at' e w w' := by
  obtain ⟨h1, ⟨v, hv, hB⟩, h3⟩ := h
  exact ⟨⟨h1, ⟨v, hv.keep hb, hB.keep hb⟩, h3⟩, _, Turn.of hB hb⟩
theorem RefStep.trans {w w1 w2 : World} {M R at1 at2 : Nat} {B B2 : List Int} {e e2 : Int} (h : RefStep M R B at1 e w w1) (k : RefStep M R B2 at2 e2 w1 w2) : RefStep M R B2 at2 e2 w w2 := by
  obtain ⟨_, o, ho⟩ := h
  obtain ⟨h2, o', ho'⟩ := k
  exact ⟨h2, o', ho.trans ho'⟩
theorem RefStep.more {w w1 w2 : World} {M R at' : Nat} {B : List Int} {e : Int} (h : RefStep M R B at' e w w1) (k : Below w1.heap.size w1 w2) : RefStep M R B at' e w w2 := by
  obtain ⟨h1, o, ho⟩ := h
  exact ⟨h1.keep k, o, ho.more k⟩
theorem RefStep.ahead {w w1 w2 : World} {M R at' : Nat} {B : List Int} {e : Int} (h : Below w.heap.size w w1) (k : RefStep M R B at' e w1 w2) : RefStep M R B at' e w w2 := by
  obtain ⟨h1, o, ho⟩ := k
  exact ⟨h1, o, ho.ahead h⟩
theorem RefStep.size {w w1 : World} {M R at' : Nat} {B : List Int} {e : Int} (h : RefStep M R B at' e w w1) : w.heap.size ≤ w1.heap.size := by
  obtain ⟨h1, o, ho⟩ := h
  exact ho.size
theorem RefStep.keep {w w1 : World} {M R at' b : Nat} {B : List Int} {e : Int} {o : Obj} (h : RefStep M R B at' e w w1) (hb : Blk w b o) (hne : b ≠ R) : Blk w1 b o := by
  obtain ⟨h1, o, ho⟩ := h
  exact ho.keep hb hne
theorem RefStep.undrew {w w' : World} {M R at' : Nat} {B : List Int} {e : Int} (h : RefStep M R B at' e w.drew w') : RefStep M R B at' e w w' := by
  obtain ⟨h1, o, ho⟩ := h
  exact ⟨h1, o, ho.os, ho.tape, ho.output, ho.size, ho.blk, ho.other⟩

theorem RefIs.upto {w w' : World} {M R at' bb : Nat} {B : List Int} {e : Int} (h : RefIs w M R B at' e) (k : Below bb w w') (hB : R < bb) : RefIs w' M R B at' e := by
  obtain ⟨h1, ⟨v, hv, hb⟩, h3⟩ := h
  exact ⟨h1, ⟨v, hv.frame k.size fun i hi _ => k.block i (by omega), hb.upto k hB⟩, h3⟩
theorem RefStep.upto {w w1 w2 : World} {M R at' bb : Nat} {B : List Int} {e : Int} (h : RefStep M R B at' e w w1) (k : Below bb w1 w2) (hB : w.heap.size ≤ bb) (hR : R < w.heap.size) : RefStep M R B at' e w w2 := by
  obtain ⟨h1, o, ho⟩ := h
  exact ⟨h1.upto k (by omega), o, ho.upto k hB hR⟩
/-- What the document's Left answers. -/
def rleft (B : List Int) (at' : Nat) (e : Int) : Nat := if e = 0 then B.length - at' else 0

/-- What the document's Raw answers, and what it makes of the place and the error. -/
def rawP (B : List Int) (at' : Nat) (e : Int) (k : Nat) : List Int := if e = 0 ∧ k ≤ B.length - at' then (B.drop at').take k else []
def rawA (B : List Int) (at' : Nat) (e : Int) (k : Nat) : Nat := if e = 0 ∧ k ≤ B.length - at' then at' + k else at'
def rawE (B : List Int) (at' : Nat) (e : Int) (k : Nat) : Int := if e = 0 ∧ B.length - at' < k then 9 else e

theorem one_newF (w : World) (v : Value) (t : TypeId) : ∀ j u, [v][j]? = some u → (w.alloc (.cells #[v] t)).cell? ((⟨w.heap.size, 0, none⟩ : Addr).add j) = some u := by
  intro j u hj
  match j, hj with
  | 0, hj =>
    simp at hj
    subst hj
    exact (Blk.new w (.cells #[v] t)).cell 0

end Go.Proofs.Ytioeaknhcfkfcaa

namespace Go.Proofs.Ytioeaknhcfkfcaa
open Go.RowKit

theorem rawP_len (B : List Int) (at' : Nat) (e : Int) (k : Nat) : (rawP B at' e k).length ≤ k := by unfold rawP; split <;> simp <;> omega
theorem rawP_bytes {B : List Int} (h : Bytes B) (at' : Nat) (e : Int) (k : Nat) : Bytes (rawP B at' e k) := by
  unfold rawP
  split
  · exact (h.drop _).take k
  · exact Bytes.nil

end Go.Proofs.Ytioeaknhcfkfcaa

namespace Go.Proofs.Ytioeaknhcfkfcaa
open Go.RowKit

def cnt1 (B : List Int) (at' : Nat) (e : Int) : Nat := (numOf (rawP B at' e 1)).toNat
def overF (most : Int) (n : Nat) : Bool := decide ((if most < 0 then 0 else most) < (n : Int))
def rsumsE (B : List Int) (at' : Nat) (e most : Int) : Int :=
  if rawE B at' e 1 ≠ 0 then rawE B at' e 1 else if overF most (cnt1 B at' e) then 8 else if cnt1 B at' e * 16 ≤ B.length - rawA B at' e 1 then 0 else 9
def rsumsA (B : List Int) (at' : Nat) (e most : Int) : Nat :=
  if rawE B at' e 1 ≠ 0 then rawA B at' e 1 else if overF most (cnt1 B at' e) then rawA B at' e 1 else if cnt1 B at' e * 16 ≤ B.length - rawA B at' e 1 then rawA B at' e 1 + cnt1 B at' e * 16 else rawA B at' e 1 + (B.length - rawA B at' e 1) / 16 * 16
def rsumsP (B : List Int) (at' : Nat) (e most : Int) : List Int := if rsumsE B at' e most = 0 then (B.drop (rawA B at' e 1)).take (cnt1 B at' e * 16) else []
def RSumsPost (M R : Nat) (B : List Int) (at' : Nat) (e most : Int) (w : World) (r : Ending) (w' : World) : Prop :=
  ∃ v n, r = .returned v ∧ (rsumsP B at' e most).length = n * 16 ∧ n ≤ 255 ∧ w'.ownsRow w.heap.size 42 16 v n (bv (rsumsP B at' e most)) ∧ RefStep M R B (rsumsA B at' e most) (rsumsE B at' e most) w w'
theorem RSumsPost.no {M R : Nat} {B : List Int} {at' : Nat} {e most : Int} {w w' : World} {a : Nat} {e' : Int} (h1 : rsumsA B at' e most = a) (h2 : rsumsE B at' e most = e') (h3 : e' ≠ 0) (h : RefStep M R B a e' w w') :
    RSumsPost M R B at' e most w (.returned (.slice none 0 0)) w' := by
  refine ⟨_, 0, rfl, ?_, by omega, ?_, by rw [h1, h2]; exact h⟩
  · unfold rsumsP; rw [h2, if_neg h3]; rfl
  · unfold rsumsP; rw [h2, if_neg h3]; exact World.ownsRow_nil _ _ _ _

/-- A store into the error. -/
theorem RefIs.fail {w : World} {M R at' : Nat} {B : List Int} {e : Int} (h : RefIs w M R B at' e) (f : Int) : RefStep M R B at' f w (w.setCell ⟨R, 2, none⟩ (.int .i64 f)) := by
  obtain ⟨h1, ⟨v, hv, hB⟩, h3⟩ := h
  have hT : Turn R (refObj v at' f) w (w.setCell ⟨R, 2, none⟩ (.int .i64 f)) := ((Turn.same hB).set 2 _).as rfl
  exact ⟨⟨h1, ⟨v, hv.turn hT h1, hT.blk⟩, h3⟩, _, hT⟩

theorem cnt1_is {B : List Int} (hb : Bytes B) (at' : Nat) (e : Int) : numOf (rawP B at' e 1) = (cnt1 B at' e : Nat) ∧ cnt1 B at' e ≤ 255 := by
  have h := numOf_one (l := rawP B at' e 1) (rawP_len B at' e 1) (rawP_bytes hb at' e 1)
  unfold cnt1
  omega

theorem row_new (w : World) (l : List Int) (t : TypeId) : ∀ j u, (bv l)[j]? = some u → (w.alloc (.cells (bv l).toArray t)).cell? ((⟨w.heap.size, 0, none⟩ : Addr).add j) = some u := by
  intro j u hu
  have e : (⟨w.heap.size, 0, none⟩ : Addr).add j = ⟨w.heap.size, j, none⟩ := by unfold Addr.add; split <;> simp_all
  rw [e, (Blk.new w (.cells (bv l).toArray t)).cell j, List.getElem?_toArray]
  exact hu
end Go.Proofs.Ytioeaknhcfkfcaa

namespace Go.Proofs.Ytioeaknhcfkfcaa
open Go.RowKit

def cnt2 (B : List Int) (at' : Nat) (e : Int) : Nat := (numOf (rawP B at' e 2)).toNat
def rblobF (B : List Int) (at' : Nat) (e most : Int) : Int := if rawE B at' e 2 = 0 ∧ (overF most (cnt2 B at' e) = true ∨ 4096 < cnt2 B at' e) then 8 else rawE B at' e 2
def rblobP (B : List Int) (at' : Nat) (e most : Int) : List Int := rawP B (rawA B at' e 2) (rblobF B at' e most) (cnt2 B at' e)
def rblobA (B : List Int) (at' : Nat) (e most : Int) : Nat := rawA B (rawA B at' e 2) (rblobF B at' e most) (cnt2 B at' e)
def rblobE (B : List Int) (at' : Nat) (e most : Int) : Int := rawE B (rawA B at' e 2) (rblobF B at' e most) (cnt2 B at' e)
theorem cnt2_is {B : List Int} (hb : Bytes B) (at' : Nat) (e : Int) : numOf (rawP B at' e 2) = (cnt2 B at' e : Nat) ∧ cnt2 B at' e ≤ 65535 := by
  have h := numOf_two (l := rawP B at' e 2) (rawP_len B at' e 2) (rawP_bytes hb at' e 2)
  unfold cnt2
  omega

def RBlobPost (M R : Nat) (B : List Int) (at' : Nat) (e most : Int) (w : World) (r : Ending) (w' : World) : Prop :=
  ∃ v, r = .returned v ∧ (Bytes (rblobP B at' e most) ∧ w'.ownsRow w.heap.size 5 1 v (rblobP B at' e most).length (bv (rblobP B at' e most))) ∧ RefStep M R B (rblobA B at' e most) (rblobE B at' e most) w w'

end Go.Proofs.Ytioeaknhcfkfcaa
