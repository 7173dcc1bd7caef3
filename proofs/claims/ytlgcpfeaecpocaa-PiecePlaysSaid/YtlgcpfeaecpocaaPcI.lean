/-
  A joiner takes a piece.
-/
import Derived.Test.YtlgcpfeaecpocaaPcH
namespace Go.Proofs.Ytlgcpfeaecpocaa
open Go.RowKit

theorem info87s : (Try.prog.info? 87).map (·.size) = some 3 := by kernel_rfl
theorem info30s : (Try.prog.info? 30).map (·.size) = some 4 := by kernel_rfl
theorem jno (j : JV) : ∀ (i : Nat) (z : Int), (#[.bool j.began, .int .u32 j.id, .slice j.a j.n j.c] : Array Value)[i]? ≠ some (.int .u8 z) := by
  intro i z
  match i with
  | 0 => simp
  | 1 => simp
  | 2 => simp
  | i + 3 => simp
theorem texts_bytes {ps : List PtV} (h : ∀ x ∈ ps, Bytes x.l) : Bytes (texts ps) := by
  intro z hz
  unfold texts at hz
  obtain ⟨l, hl, hz⟩ := List.mem_flatten.1 hz
  obtain ⟨x, hx, rfl⟩ := List.mem_map.1 hl
  exact h x hx z hz
theorem JStep.fresh {g q b m : Nat} {pid : Int} {J : PjM} {w w9 w10 : World} (h : JIs w g q J) (hb : Below w.heap.size w w9) (hz : Blk w9 b (.cells (pcells (List.replicate m noPt)).toArray 94)) (hlt : w.heap.size ≤ b)
    (ht : Turn g (.cells #[.bool true, .int .u32 pid, .slice (some ⟨b, 0, none⟩) m m] 87) w9 w10) (hm : 0 < m ∧ m ≤ 32) (hid : 0 ≤ pid ∧ pid ≤ 4294967295) : JStep g q b ⟨true, pid, List.replicate m noPt⟩ w w10 := by
  have hg := h.b.lt
  refine ⟨ht.os.trans hb.os, ht.tape.trans hb.tape, ht.output.trans hb.output, Nat.le_trans hb.size ht.size, ⟨?_, fun _ => ht.keep hz (by omega), fun x hx => ?_, by simpa using hm.2, hid⟩, fun k hk h1 _ => (ht.other k (Nat.lt_of_lt_of_le hk hb.size) h1).trans (hb.block k hk), .inr hlt⟩
  · simp only [List.length_replicate]
    rw [pa_some hm.1]
    exact ht.blk
  · rw [List.eq_of_mem_replicate hx]
    exact ⟨HoldsB.nil _ _, by simp [noPt]⟩
set_option maxRecDepth 100000 in
set_option maxHeartbeats 8000000 in
theorem take_any (g q : Nat) (J : PjM) (p : PV) (tp : List Int) (w : World) (h : JIs w g q J) (hp : HoldsB w w.heap.size (.slice p.a p.n p.c) tp) (hid : 0 ≤ p.id ∧ p.id ≤ 4294967295) : Calls Try.prog 19 #[jP g, p.v] w (TakePost g q J p tp w) := by
  have H := Kp.mk h
  have HT := Kp.mk hp
  have HID := Kp.mk hid
  have hn : p.n = tp.length := by
    obtain ⟨a1, n1, c1, e1, e2⟩ := hp.slice
    simp only [Value.slice.injEq] at e1
    omega
  have HNT := Kp.mk hn
  clear h hp hid hn
  go_enter Try.func19, Try.ntmps19
  go_wp2_with fail
  refine (look_any g q J p _ (H.out.keep (more (Below.refl _ _) _))).mono ?_
  rintro r w1 ⟨rfl, hb⟩
  obtain ⟨F, hF⟩ : ∃ F, F = w.heap.size := ⟨_, rfl⟩
  have HFe := Kp.mk hF
  have HB1 : Kp (Below w.heap.size w w1) := ⟨(more (Below.refl _ _) _).trans (hb.mono (by simp))⟩
  have HP1 : Kp (Blk w1 F (.cells #[.int .u32 p.id, .int .i64 p.at_, .int .i64 p.many, .slice p.a p.n p.c] 30)) := ⟨(Blk.newAt _ hF).keep hb⟩
  have HJ1 : Kp (JIs w1 g q J) := ⟨H.out.keep HB1.out⟩
  rw [← hF]
  clear hb hF
  by_cases he : lookE J p = 0
  · have HE0 := Kp.mk he
    rw [he]
    have HRB : Kp (rightB p = true) := ⟨by
      cases hr : rightB p with
      | true => rfl
      | false => unfold lookE at he; rw [if_pos hr] at he; exact absurd he (by decide)⟩
    have HRR : Kp (1 ≤ p.many ∧ p.many ≤ 32 ∧ 0 ≤ p.at_ ∧ p.at_ < p.many ∧ p.n ≤ 4096) := ⟨by have := HRB.out; unfold rightB at this; exact of_decide_eq_true this⟩
    have HTL : Kp (tp.length ≤ 4096) := ⟨by rw [← HNT.out]; exact HRR.out.2.2.2.2⟩
    have HAT : Kp (p.at_ = (p.at_.toNat : Nat)) := ⟨by have := HRR.out; omega⟩
    have HAI : Kp (p.at_ < p.many) := ⟨HRR.out.2.2.2.1⟩
    obtain ⟨m, hm⟩ : ∃ m : Nat, p.many = (m : Nat) := ⟨p.many.toNat, by have := HRR.out; omega⟩
    have HMM := Kp.mk hm
    have HM : Kp (0 < m ∧ m ≤ 32) := ⟨by have := HRR.out; omega⟩
    clear hm he
    have p0 : w1.cell? ⟨F, 0, none⟩ = some (.int .u32 p.id) := HP1.out.cell 0
    go_wp2_with fail
    refine (isNext_any g _ p.id w1 HJ1.out.b).mono ?_
    rintro r w2 ⟨rfl, rfl⟩
    have hnn : nextB ⟨J.began, J.id, pa q J.ps.length, J.ps.length, J.ps.length⟩ p.id = (!J.began || decide (J.id < p.id)) := rfl
    rw [hnn]
    clear hnn p0
    cases hn : (!J.began || decide (J.id < p.id)) with
    | true =>
      have HNX := Kp.mk hn
      clear hn
      go_wp2_with fail
      refine wp_region_pred (fun w' => JIs w' g q J ∧ Blk w' F (.cells #[.int .u32 p.id, .int .i64 p.at_, .int .i64 p.many, .slice p.a p.n p.c] 30) ∧ Below w.heap.size w w') [0, 1, 2, 3, 4, 5, 6, 7] [8]
        (fun ι w' v => match ι with
          | 0 | 7 => v = jP g
          | 1 => v = .pointer (some ⟨F, 0, none⟩)
          | 2 => v = .int .u32 p.id
          | 3 => v = .pointer (some ⟨F, 2, none⟩)
          | 4 => v = .int .i64 (m : Nat)
          | 5 => ∃ b, v = .slice (some ⟨b, 0, none⟩) m m ∧ F < b ∧ Blk w' b (.cells (pcells (List.replicate m noPt)).toArray 94)
          | 6 => ∃ b, v = .agg #[.bool true, .int .u32 p.id, .slice (some ⟨b, 0, none⟩) m m] ∧ F < b ∧ Blk w' b (.cells (pcells (List.replicate m noPt)).toArray 94)
          | _ => v = .bool true)
        [[], [], [(1, some 20)], [], [(3, some 22)], [(4, some 23)], [(2, some 21), (5, some 24)], [(0, some 19), (1, some 20), (2, some 21), (3, some 22), (4, some 23), (5, some 24), (6, some 25)]]
        [(0, some 19), (1, some 20), (2, some 21), (3, some 22), (4, some 23), (5, some 24), (6, some 25), (7, some 26)]
        (by kernel_rfl) (by kernel_rfl) (by kernel_rfl) (by kernel_rfl) (by kernel_rfl) (by kernel_rfl) (by decide) (by decide) (fun w1 w2 h hb => ⟨h.1.keep hb, h.2.1.keep hb, h.2.2.trans (hb.mono h.2.2.size)⟩) ?_ ⟨HJ1.out.keep (Below.refl _ _).drew, HP1.out.keep (Below.refl _ _).drew, HB1.out.drew⟩ ?_ ?_
      · intro ι w1 w2 v h hb
        by_cases h5 : ι = 5
        · subst h5
          exact (by obtain ⟨b, e, h1, hg⟩ := h; exact ⟨b, e, h1, hg.keep hb⟩)
        by_cases h6 : ι = 6
        · subst h6
          exact (by obtain ⟨b, e, h1, hg⟩ := h; exact ⟨b, e, h1, hg.keep hb⟩)
        match ι, h5, h6, h with
        | 0, _, _, h => exact h
        | 1, _, _, h => exact h
        | 2, _, _, h => exact h
        | 3, _, _, h => exact h
        | 4, _, _, h => exact h
        | 5, g, _, h => exact absurd rfl g
        | 6, _, g, h => exact absurd rfl g
        | 7, _, _, h => exact h
        | _ + 8, _, _, h => exact h
      · refine ⟨fun γ wx hS h => ?_, fun γ wx hS h => ?_, fun γ wx hS h => ?_, fun γ wx hS h => ?_, fun γ wx hS h => ?_, fun γ wx hS h => ?_, fun γ wx hS h => ?_, fun γ wx hS h => ?_, trivial⟩
        · refine ⟨_, rfl, ?_⟩
          refine predOp_val (v := jP g) ?_ ?_ ?_
          · kernel_rfl
          · simp only [putE]
            go_simp
          · rfl
        · refine ⟨_, rfl, ?_⟩
          refine predOp_val (v := .pointer (some ⟨F, 0, none⟩)) ?_ ?_ ?_
          · kernel_rfl
          · simp only [putE]
            go_simp
          · rfl
        · have h1 := h
          have e1 : γ 1 = .pointer (some ⟨F, 0, none⟩) := h1
          have hcell : wx.cell? ⟨F, 0, none⟩ = some (.int .u32 p.id) := hS.2.1.cell 0
          refine ⟨_, rfl, ?_⟩
          refine predOp_val (v := .int .u32 p.id) ?_ ?_ ?_
          · kernel_rfl
          · simp only [putE, e1]
            go_simp
          · rfl
        · refine ⟨_, rfl, ?_⟩
          refine predOp_val (v := .pointer (some ⟨F, 2, none⟩)) ?_ ?_ ?_
          · kernel_rfl
          · simp only [putE]
            go_simp
          · rfl
        · have h3 := h
          have e3 : γ 3 = .pointer (some ⟨F, 2, none⟩) := h3
          have hcell : wx.cell? ⟨F, 2, none⟩ = some (.int .i64 (m : Nat)) := by rw [← HMM.out]; exact hS.2.1.cell 2
          refine ⟨_, rfl, ?_⟩
          refine predOp_val (v := .int .i64 (m : Nat)) ?_ ?_ ?_
          · kernel_rfl
          · simp only [putE, e3]
            go_simp
          · rfl
        · have h4 := h
          have e4 : γ 4 = .int .i64 (m : Nat) := h4
          have hmk := make94 m HM.out.2 wx
          refine ⟨_, rfl, Or.inl ⟨?_, ?_⟩⟩
          · kernel_rfl
          · refine predRun_new (w' := wx.alloc (.cells (pcells (List.replicate m noPt)).toArray 94)) (v := .slice (some ⟨wx.heap.size, 0, none⟩) m m) ?_ (more (Below.refl _ _) _) ?_
            · simp only [putE, e4]
              go_simp
            · exact ⟨_, rfl, hS.2.1.lt, Blk.new _ _⟩
        · obtain ⟨h2, h5⟩ := h
          have e2 : γ 2 = .int .u32 p.id := h2
          have p5 : ∃ b, (γ 5) = .slice (some ⟨b, 0, none⟩) m m ∧ F < b ∧ Blk wx b (.cells (pcells (List.replicate m noPt)).toArray 94) := h5
          obtain ⟨b, e5, h51, h52⟩ := p5
          refine ⟨_, rfl, ?_⟩
          refine predOp_val (v := .agg #[.bool true, .int .u32 p.id, .slice (some ⟨b, 0, none⟩) m m]) ?_ ?_ ?_
          · kernel_rfl
          · simp only [putE, e2, e5]
            go_simp
          · exact ⟨b, rfl, h51, h52⟩
        · obtain ⟨h0, h1, h2, h3, h4, h5, h6⟩ := h
          have e0 : γ 0 = jP g := h0
          have e1 : γ 1 = .pointer (some ⟨F, 0, none⟩) := h1
          have e2 : γ 2 = .int .u32 p.id := h2
          have e3 : γ 3 = .pointer (some ⟨F, 2, none⟩) := h3
          have e4 : γ 4 = .int .i64 (m : Nat) := h4
          have p5 : ∃ b, (γ 5) = .slice (some ⟨b, 0, none⟩) m m ∧ F < b ∧ Blk wx b (.cells (pcells (List.replicate m noPt)).toArray 94) := h5
          have p6 : ∃ b, (γ 6) = .agg #[.bool true, .int .u32 p.id, .slice (some ⟨b, 0, none⟩) m m] ∧ F < b ∧ Blk wx b (.cells (pcells (List.replicate m noPt)).toArray 94) := h6
          refine ⟨_, rfl, ?_⟩
          refine predOp_val (v := jP g) ?_ ?_ ?_
          · kernel_rfl
          · simp only [putE, e0, e1, e2, e3, e4]
            go_simp
          · rfl
      · intro γ w9 hS h
        obtain ⟨b, e6, h61, h62⟩ : ∃ b, γ 6 = .agg #[.bool true, .int .u32 p.id, .slice (some ⟨b, 0, none⟩) m m] ∧ F < b ∧ Blk w9 b (.cells (pcells (List.replicate m noPt)).toArray 94) := h.2.2.2.2.2.2.1
        have e7 : γ 7 = jP g := h.2.2.2.2.2.2.2
        simp only [putE, Act.put, List.setIfInBounds_toArray, List.set_cons_zero, List.set_cons_succ]
        rw [e6, e7]
        have HTH : Kp (w9.there g 0 3) := ⟨fun j hj => ⟨match j, hj with | 0, _ => by rw [hS.1.b.cell 0]; rfl | 1, _ => by rw [hS.1.b.cell 1]; rfl | 2, _ => by rw [hS.1.b.cell 2]; rfl | j + 3, hj => absurd hj (by omega), hS.1.b.frozen _⟩⟩
        have HTU : Kp (Turn g (.cells #[.bool true, .int .u32 p.id, .slice (some ⟨b, 0, none⟩) m m] 87) w9 (w9.setCells g 0 [.bool true, .int .u32 p.id, .slice (some ⟨b, 0, none⟩) m m])) := ⟨(((Turn.same hS.1.b).set 0 _).set 1 _).set 2 _⟩
        have H1C : Kp ((#[.bool true, .int .u32 p.id, .slice (some ⟨b, 0, none⟩) m m] : Array Value).all (·.oneCell') = true) := ⟨all_oneCell_toArray (cs := [.bool true, .int .u32 p.id, .slice (some ⟨b, 0, none⟩) m m]) (by intro v hv; simp at hv; rcases hv with rfl | rfl | rfl <;> rfl)⟩
        have HS1 := Kp.mk hS.1
        have HS2 := Kp.mk hS.2.1
        have HS3 := Kp.mk hS.2.2
        have HZ := Kp.mk h62
        have HFB := Kp.mk h61
        clear h hS e6 e7 h61 h62
        refine wpOps_step rfl rfl ?_
        refine wp_store_mid 87 (.tmp 26) (.tmp 25) rfl g 0 #[.bool true, .int .u32 p.id, .slice (some ⟨b, 0, none⟩) m m] ?hx ?hy ?ht info87s H1C.out ?_
        case hx => rfl
        case hy => rfl
        case ht => exact HTH.out
        obtain ⟨W5, hW5⟩ : ∃ W5, W5 = w9.setCells g 0 [.bool true, .int .u32 p.id, .slice (some ⟨b, 0, none⟩) m m] := ⟨_, rfl⟩
        rw [← hW5] at HTU
        rw [← hW5]
        clear hW5 HTH H1C
        have HJS : Kp (JStep g q b ⟨true, p.id, List.replicate m noPt⟩ w W5) := ⟨JStep.fresh H.out HS3.out HZ.out (by have := HFB.out; have := HFe.out; omega) HTU.out HM.out HID.out⟩
        have HP5 : Kp (Blk W5 F (.cells #[.int .u32 p.id, .int .i64 p.at_, .int .i64 p.many, .slice p.a p.n p.c] 30)) := ⟨HTU.out.keep HS2.out (cells_ne HS2.out HS1.out.b (by decide))⟩
        have HT5 : Kp (HoldsB W5 W5.heap.size (.slice p.a p.n p.c) tp) := ⟨((HT.out.keep HS3.out).beside HS1.out.b (jno _) HTU.out.size fun k hk hne => HTU.out.other k hk hne).mono (Nat.le_trans HS3.out.size HTU.out.size)⟩
        have HN1 : Kp (nextJ J p = ⟨true, p.id, List.replicate m noPt⟩) := ⟨by unfold nextJ; rw [if_pos HNX.out, HMM.out]; rfl⟩
        have HI1 : Kp (p.at_.toNat < (List.replicate m noPt).length) := ⟨by rw [List.length_replicate]; have := HRR.out; have := HMM.out; omega⟩
        clear HTU HS1 HS2 HS3 HZ HFB HJ1 HP1 HB1
        refine wpOps_done ?_
        go_wp2_with (refine wpList_load_row rfl 30 (.tmp 3) rfl F rfl 30 #[.int .u32 p.id, .int .i64 p.at_, .int .i64 p.many, .slice p.a p.n p.c] (0, 0) _ HP5.out Try.underlying30 rfl info30s ?_)
        refine (keep_any g b p.at_.toNat ⟨true, p.id, List.replicate m noPt⟩ p tp W5 HJS.out.is HT5.out HAT.out HI1.out HTL.out).mono ?_
        rintro r w6 ⟨v', rfl, hs, hnw⟩
        have HNW : Kp (NewV w.heap.size v') := ⟨hnw.mono HJS.out.size⟩
        clear hnw
        have HK6 : Kp (JStep g q b (keepJ ⟨true, p.id, List.replicate m noPt⟩ p.at_.toNat tp v') w w6) := ⟨JStep.trans HJS.out hs⟩
        obtain ⟨J2, hJ2⟩ : ∃ J2, J2 = keepJ ⟨true, p.id, List.replicate m noPt⟩ p.at_.toNat tp v' := ⟨_, rfl⟩
        rw [← hJ2] at HK6
        clear hs
        by_cases hk : keepE ⟨true, p.id, List.replicate m noPt⟩ p.at_.toNat tp = 0
        · rw [hk]
          have HJ2 := Kp.mk hJ2
          have HKK := Kp.mk hk
          clear hJ2 hk
          go_wp2_with fail
          refine (waits_any g b J2 w6 HK6.out.is).mono ?_
          rintro r w7 ⟨rfl, hb7⟩
          have HK7 : Kp (JStep g q b J2 w w7) := ⟨HK6.out.trans (JStep.same HK6.out.is hb7)⟩
          have HL7 := HK6.out.is.n
          clear hb7
          by_cases hh : haves J2.ps < J2.ps.length
          · have HR : Kp (takeR J p tp v' = (0, false, [], J2)) := ⟨by unfold takeR; rw [if_pos HE0.out, HN1.out, if_pos HKK.out, ← HJ2.out, if_pos hh]⟩
            have hh' : ((haves J2.ps : Nat) : Int) < (J2.ps.length : Nat) := by omega
            generalize haves J2.ps = ha at *
            generalize J2.ps.length = le at *
            go_wp2_with fail
            exact bodyPost_ret (results_tmp3 rfl _ _ _) rfl ⟨b, v', .slice none 0 0, by rw [HR.out]; rfl, by rw [HR.out]; exact HK7.out, by rw [HR.out]; exact HoldsB.nil _ _, HNW.out, NewV.none _ _ _⟩
          · have HR : Kp (takeR J p tp v' = (0, true, texts J2.ps, ⟨true, J2.id, []⟩)) := ⟨by unfold takeR; rw [if_pos HE0.out, HN1.out, if_pos HKK.out, ← HJ2.out, if_neg hh]⟩
            have hh' : ¬ ((haves J2.ps : Nat) : Int) < (J2.ps.length : Nat) := by omega
            generalize haves J2.ps = ha at *
            generalize J2.ps.length = le at *
            go_wp2_with fail
            refine (joined_any g b J2 w7 HK7.out.is).mono ?_
            rintro r w8 ⟨u, rfl, ho, hb8⟩
            rw [← texts_len] at ho
            have HNU : Kp (NewV w.heap.size u) := ⟨(NewV.of ho).mono HK7.out.size⟩
            have HU8 : Kp (HoldsB w8 w8.heap.size u (texts J2.ps)) := ⟨HoldsB.ofRow (texts_bytes fun x hx => (HK7.out.is.t x hx).1.bytes) ho⟩
            have HK8 : Kp (JStep g q b J2 w w8) := ⟨HK7.out.trans (JStep.same HK7.out.is hb8)⟩
            obtain ⟨ua, um, uc, rfl⟩ := row_shape ho
            clear ho hb8
            go_wp2_with fail
            refine (end_any g _ w8 HK8.out.is.b).mono ?_
            rintro r w9 ⟨rfl, ht⟩
            have HK9 : Kp (JStep g q b ⟨true, J2.id, []⟩ w w9) := ⟨HK8.out.trans (JStep.ended HK8.out.is ht)⟩
            have HU9 : Kp (HoldsB w9 w9.heap.size (.slice ua um uc) (texts J2.ps)) := ⟨(HU8.out.beside HK8.out.is.b (jno _) ht.size fun k hk hne => ht.other k hk hne).mono ht.size⟩
            clear ht
            go_wp2_with fail
            exact bodyPost_ret (results_tmp3 rfl _ _ _) rfl ⟨b, v', .slice ua um uc, by rw [HR.out]; rfl, by rw [HR.out]; exact HK9.out, by rw [HR.out]; exact HU9.out, HNW.out, HNU.out⟩
        · have HR : Kp (takeR J p tp v' = (keepE ⟨true, p.id, List.replicate m noPt⟩ p.at_.toNat tp, false, [], J2)) := ⟨by unfold takeR; rw [if_pos HE0.out, HN1.out, if_neg hk, ← hJ2]⟩
          generalize keepE ⟨true, p.id, List.replicate m noPt⟩ p.at_.toNat tp = E2 at *
          have hk1 : (E2 == 0) = false := by simpa using hk
          have hk2 : (E2 != 0) = true := by simpa using hk
          clear hJ2
          go_wp2_with fail
          exact bodyPost_ret (results_tmp3 rfl _ _ _) rfl ⟨b, v', .slice none 0 0, by rw [HR.out]; rfl, by rw [HR.out]; exact HK6.out, by rw [HR.out]; exact HoldsB.nil _ _, HNW.out, NewV.none _ _ _⟩
    | false =>
      have HNX := Kp.mk hn
      clear hn
      have HJS : Kp (JStep g q q J w w1) := ⟨JStep.same H.out HB1.out⟩
      have HP5 := HP1
      have HT5 : Kp (HoldsB w1 w1.heap.size (.slice p.a p.n p.c) tp) := ⟨HT.out.grow HB1.out⟩
      have HN1 : Kp (nextJ J p = J) := ⟨by unfold nextJ; rw [if_neg (by rw [HNX.out]; decide)]⟩
      have HI1 : Kp (p.at_.toNat < J.ps.length) := ⟨by
        have h0 := HE0.out
        unfold lookE at h0
        rw [if_neg (by rw [HRB.out]; decide), if_neg (by rw [HNX.out]; decide)] at h0
        split at h0
        · exact absurd h0 (by decide)
        · split at h0
          · rename_i h1
            have := HAI.out
            have := HRR.out
            omega
          · exact absurd h0 (by decide)⟩
      go_wp2_with (refine wpList_load_row rfl 30 (.tmp 3) rfl F rfl 30 #[.int .u32 p.id, .int .i64 p.at_, .int .i64 p.many, .slice p.a p.n p.c] (0, 0) _ HP5.out Try.underlying30 rfl info30s ?_)
      refine (keep_any g q p.at_.toNat J p tp w1 HJS.out.is HT5.out HAT.out HI1.out HTL.out).mono ?_
      rintro r w6 ⟨v', rfl, hs, hnw⟩
      have HNW : Kp (NewV w.heap.size v') := ⟨hnw.mono HJS.out.size⟩
      clear hnw
      have HK6 : Kp (JStep g q q (keepJ J p.at_.toNat tp v') w w6) := ⟨JStep.trans HJS.out hs⟩
      obtain ⟨J2, hJ2⟩ : ∃ J2, J2 = keepJ J p.at_.toNat tp v' := ⟨_, rfl⟩
      rw [← hJ2] at HK6
      clear hs
      by_cases hk : keepE J p.at_.toNat tp = 0
      · rw [hk]
        have HJ2 := Kp.mk hJ2
        have HKK := Kp.mk hk
        clear hJ2 hk
        go_wp2_with fail
        refine (waits_any g q J2 w6 HK6.out.is).mono ?_
        rintro r w7 ⟨rfl, hb7⟩
        have HK7 : Kp (JStep g q q J2 w w7) := ⟨HK6.out.trans (JStep.same HK6.out.is hb7)⟩
        have HL7 := HK6.out.is.n
        clear hb7
        by_cases hh : haves J2.ps < J2.ps.length
        · have HR : Kp (takeR J p tp v' = (0, false, [], J2)) := ⟨by unfold takeR; rw [if_pos HE0.out, HN1.out, if_pos HKK.out, ← HJ2.out, if_pos hh]⟩
          have hh' : ((haves J2.ps : Nat) : Int) < (J2.ps.length : Nat) := by omega
          generalize haves J2.ps = ha at *
          generalize J2.ps.length = le at *
          go_wp2_with fail
          exact bodyPost_ret (results_tmp3 rfl _ _ _) rfl ⟨q, v', .slice none 0 0, by rw [HR.out]; rfl, by rw [HR.out]; exact HK7.out, by rw [HR.out]; exact HoldsB.nil _ _, HNW.out, NewV.none _ _ _⟩
        · have HR : Kp (takeR J p tp v' = (0, true, texts J2.ps, ⟨true, J2.id, []⟩)) := ⟨by unfold takeR; rw [if_pos HE0.out, HN1.out, if_pos HKK.out, ← HJ2.out, if_neg hh]⟩
          have hh' : ¬ ((haves J2.ps : Nat) : Int) < (J2.ps.length : Nat) := by omega
          generalize haves J2.ps = ha at *
          generalize J2.ps.length = le at *
          go_wp2_with fail
          refine (joined_any g q J2 w7 HK7.out.is).mono ?_
          rintro r w8 ⟨u, rfl, ho, hb8⟩
          rw [← texts_len] at ho
          have HNU : Kp (NewV w.heap.size u) := ⟨(NewV.of ho).mono HK7.out.size⟩
          have HU8 : Kp (HoldsB w8 w8.heap.size u (texts J2.ps)) := ⟨HoldsB.ofRow (texts_bytes fun x hx => (HK7.out.is.t x hx).1.bytes) ho⟩
          have HK8 : Kp (JStep g q q J2 w w8) := ⟨HK7.out.trans (JStep.same HK7.out.is hb8)⟩
          obtain ⟨ua, um, uc, rfl⟩ := row_shape ho
          clear ho hb8
          go_wp2_with fail
          refine (end_any g _ w8 HK8.out.is.b).mono ?_
          rintro r w9 ⟨rfl, ht⟩
          have HK9 : Kp (JStep g q q ⟨true, J2.id, []⟩ w w9) := ⟨HK8.out.trans (JStep.ended HK8.out.is ht)⟩
          have HU9 : Kp (HoldsB w9 w9.heap.size (.slice ua um uc) (texts J2.ps)) := ⟨(HU8.out.beside HK8.out.is.b (jno _) ht.size fun k hk hne => ht.other k hk hne).mono ht.size⟩
          clear ht
          go_wp2_with fail
          exact bodyPost_ret (results_tmp3 rfl _ _ _) rfl ⟨q, v', .slice ua um uc, by rw [HR.out]; rfl, by rw [HR.out]; exact HK9.out, by rw [HR.out]; exact HU9.out, HNW.out, HNU.out⟩
      · have HR : Kp (takeR J p tp v' = (keepE J p.at_.toNat tp, false, [], J2)) := ⟨by unfold takeR; rw [if_pos HE0.out, HN1.out, if_neg hk, ← hJ2]⟩
        generalize keepE J p.at_.toNat tp = E2 at *
        have hk1 : (E2 == 0) = false := by simpa using hk
        have hk2 : (E2 != 0) = true := by simpa using hk
        clear hJ2
        go_wp2_with fail
        exact bodyPost_ret (results_tmp3 rfl _ _ _) rfl ⟨q, v', .slice none 0 0, by rw [HR.out]; rfl, by rw [HR.out]; exact HK6.out, by rw [HR.out]; exact HoldsB.nil _ _, HNW.out, NewV.none _ _ _⟩
  · have HR : Kp (takeR J p tp undef = (lookE J p, false, [], J)) := ⟨by unfold takeR; rw [if_neg he]⟩
    generalize lookE J p = E1 at *
    have hk1 : (E1 == 0) = false := by simpa using he
    have hk2 : (E1 != 0) = true := by simpa using he
    go_wp2_with fail
    exact bodyPost_ret (results_tmp3 rfl _ _ _) rfl ⟨q, undef, .slice none 0 0, by rw [HR.out]; rfl, by rw [HR.out]; exact JStep.same H.out HB1.out, by rw [HR.out]; exact HoldsB.nil _ _, NewV.undef _, NewV.none _ _ _⟩
end Go.Proofs.Ytlgcpfeaecpocaa
