/-
  A piece is kept.
-/
import Derived.Test.YtlgcpfeaecpocaaPcF
namespace Go.Proofs.Ytlgcpfeaecpocaa
open Go.RowKit

theorem predOp_val {P : Program} {ops : Array Oper} {o : Oper} {V : World → Value → Prop} {a : Act} {w : World} {v : Value} (hw : Region.wanted o (yielded ops a.tmps) = true) (he : (execOp a.eval o).run P w = .ok (.value v) w) (hv : V w v) : PredOp P ops o V a w := Or.inl ⟨hw, predRun_value he hv⟩
def noPt : PtV := ⟨false, .slice none 0 0, []⟩
def keepE (J : PjM) (i : Nat) (tp : List Int) : Int :=
  if (J.ps.getD i noPt).there = true then (if (J.ps.getD i noPt).l = tp then 0 else 7) else if 16384 < lens J.ps + tp.length then 8 else 0
def keepJ (J : PjM) (i : Nat) (tp : List Int) (v : Value) : PjM :=
  if (J.ps.getD i noPt).there = true then J else if 16384 < lens J.ps + tp.length then ⟨true, J.id, []⟩ else { J with ps := J.ps.set i ⟨true, v, tp⟩ }
def NewV (b : Nat) (v : Value) : Prop := ∀ k, v.ownBlock = some k → b ≤ k
theorem NewV.of {w : World} {base n : Nat} {v : Value} {xs : List Value} (h : w.ownsRow base 5 1 v n xs) : NewV base v := fun k hk => by
  rcases h.2 with ⟨rfl, _⟩ | ⟨g, cap, cur, rfl, hg, _⟩
  · cases hk
  · cases hk
    exact hg
theorem NewV.undef (b : Nat) : NewV b undef := fun k hk => by cases hk
theorem NewV.none (b n c : Nat) : NewV b (.slice none n c) := fun k hk => by cases hk
theorem NewV.mono {b b' : Nat} {v : Value} (h : NewV b v) (hb : b' ≤ b) : NewV b' v := fun k hk => Nat.le_trans hb (h k hk)
def KeepPost (g q i : Nat) (J : PjM) (tp : List Int) (w : World) (r : Ending) (w' : World) : Prop :=
  ∃ v', r = .returned (.int .i64 (keepE J i tp)) ∧ JStep g q q (keepJ J i tp v') w w' ∧ NewV w.heap.size v'
set_option maxHeartbeats 4000000 in
theorem keep_any (g q i : Nat) (J : PjM) (p : PV) (tp : List Int) (w : World) (h : JIs w g q J) (hp : HoldsB w w.heap.size (.slice p.a p.n p.c) tp) (hat : p.at_ = (i : Nat)) (hi : i < J.ps.length) (hl : tp.length ≤ 4096) :
    Calls Try.prog 43 #[jP g, p.v] w (KeepPost g q i J tp w) := by
  have H := Kp.mk h
  have HT := Kp.mk hp
  have HI := Kp.mk hi
  have HL := Kp.mk hl
  obtain ⟨x, hx⟩ : ∃ x, x = J.ps[i] := ⟨_, rfl⟩
  have HGD : Kp (J.ps.getD i noPt = x) := ⟨by rw [List.getD_eq_getElem?_getD, List.getElem?_eq_getElem hi, hx]; rfl⟩
  have HXT : Kp (HoldsB w w.heap.size x.v x.l ∧ x.l.length ≤ 4096) := ⟨by rw [hx]; exact h.t _ (List.getElem_mem hi)⟩
  have HXR : Kp (w.rangeAt q (i * 2) (ptc x)) := ⟨by rw [hx]; exact h.at hi⟩
  obtain ⟨N, hN⟩ : ∃ N, N = J.ps.length := ⟨_, rfl⟩
  have HN := Kp.mk hN
  have HN32 : N ≤ 32 := by rw [hN]; exact h.n
  have hiN : i < N := by omega
  have HC2 : Kp (w.cell? ⟨g, 2, none⟩ = some (.slice (some ⟨q, 0, none⟩) N N)) := ⟨by have := (jcells h.b).1.2.2; rw [pa_some (by omega)] at this; rw [hN]; exact this⟩
  have HG : Kp (g < w.heap.size) := ⟨h.b.lt⟩
  have HQ : Kp (q < w.heap.size) := ⟨(h.r (by omega)).lt⟩
  obtain ⟨at_, n, c, hpn⟩ : ∃ a n c, p = ⟨p.id, (i : Nat), p.many, a, n, c⟩ := ⟨p.a, p.n, p.c, by rw [← hat]⟩
  have hn : n = tp.length := by
    obtain ⟨a1, n1, c1, e1, e2⟩ := hp.slice
    rw [hpn] at e1
    simp only [Value.slice.injEq] at e1
    omega
  rw [hpn] at HT
  have HNT := Kp.mk hn
  rw [hpn]
  simp only [] at HT
  generalize p.id = pid
  generalize p.many = pm
  clear h hp hi hl hx hN hpn hn hat
  go_enter Try.func43, Try.ntmps43
  go_wp2_with fail
  obtain ⟨F, hF⟩ : ∃ F, F = w.heap.size := ⟨_, rfl⟩
  obtain ⟨W, hW⟩ : ∃ W, W = w.alloc (.cells #[.int .u32 pid, .int .i64 (i : Nat), .int .i64 pm, .slice at_ n c] 30) := ⟨_, rfl⟩
  have HB : Kp (Below w.heap.size w W) := ⟨by rw [hW]; exact more (Below.refl _ _) _⟩
  have HP : Kp (Blk W F (.cells #[.int .u32 pid, .int .i64 (i : Nat), .int .i64 pm, .slice at_ n c] 30)) := ⟨by rw [hW]; exact Blk.newAt _ hF⟩
  have HFw := Kp.mk hF
  rw [← hF, ← hW]
  have p1 : W.cell? ⟨F, 1, none⟩ = some (.int .i64 (i : Nat)) := HP.out.cell 1
  have p3 : W.cell? ⟨F, 3, none⟩ = some (.slice at_ n c) := HP.out.cell 3
  have c2 : W.cell? ⟨g, 2, none⟩ = some (.slice (some ⟨q, 0, none⟩) N N) := (HB.out.cell HG.out).trans HC2.out
  have q0 : W.cell? ⟨q, i * 2, none⟩ = some (.bool x.there) := (HB.out.cell HQ.out).trans (HXR.out 0 _ rfl)
  have q1 : W.cell? ⟨q, i * 2 + 1, none⟩ = some x.v := (HB.out.cell HQ.out).trans (HXR.out 1 _ rfl)
  have HJ : Kp (JIs W g q J) := ⟨H.out.keep HB.out⟩
  clear hF hW
  go_quiet (fail)
  have HB2 : Kp (Below w.heap.size w (W.drewN nq)) := ⟨below_drewN HB.out nq⟩
  have HJ2 : Kp (JIs (W.drewN nq) g q J) := ⟨H.out.keep HB2.out⟩
  have HP2 : Kp (Blk (W.drewN nq) F (.cells #[.int .u32 pid, .int .i64 (i : Nat), .int .i64 pm, .slice at_ n c] 30)) := ⟨HP.out⟩
  have p3' : (W.drewN nq).cell? ⟨F, 3, none⟩ = some (.slice at_ n c) := p3
  have q0' : (W.drewN nq).cell? ⟨q, i * 2, none⟩ = some (.bool x.there) := q0
  have q1' : (W.drewN nq).cell? ⟨q, i * 2 + 1, none⟩ = some x.v := q1
  clear p1 p3 c2 q0 q1 HJ HP HB
  generalize W.drewN nq = w2 at *
  have HV := Kp.mk (HXT.out.1.keep HB2.out)
  have HTV := Kp.mk (HT.out.keep HB2.out)
  obtain ⟨xa, xn, xc, hxv, -⟩ := HXT.out.1.slice
  rw [hxv] at q1' HV
  cases hth : x.there with
  | true =>
    rw [hth] at q0'
    have CB : Kp (∀ n', Calls Try.prog 61 #[.slice xa xn xc, .slice at_ n c] (w2.drewN n') fun r w' => r = .returned (.bool (decide (x.l = tp))) ∧ w' = w2.drewN n') :=
      ⟨fun n' => equal_any w.heap.size w.heap.size _ _ _ _ (w2.drewN n') (HV.out.keep (below_drewN (Below.refl _ _) n')) (HTV.out.keep (below_drewN (Below.refl _ _) n'))⟩
    by_cases he : x.l = tp
    · rw [decide_eq_true he] at CB
      have HK : Kp (keepE J i tp = 0) := ⟨by unfold keepE; rw [HGD.out, if_pos hth, if_pos he]⟩
      have HKJ : Kp (keepJ J i tp undef = J) := ⟨by unfold keepJ; rw [HGD.out, if_pos hth]⟩
      clear hth he hxv
      go_wp2_with fail
      go_quiet ((go_at_call 61; exact Calls.quiet_of_same (CB.out _)))
      go_wp2_with fail
      go_ret
      exact ⟨undef, reti HK.out.symm, by rw [HKJ.out]; exact JStep.same H.out (below_drewN HB2.out _), NewV.undef _⟩
    · rw [decide_eq_false he] at CB
      have HK : Kp (keepE J i tp = 7) := ⟨by unfold keepE; rw [HGD.out, if_pos hth, if_neg he]⟩
      have HKJ : Kp (keepJ J i tp undef = J) := ⟨by unfold keepJ; rw [HGD.out, if_pos hth]⟩
      clear hth he hxv
      go_wp2_with fail
      go_quiet ((go_at_call 61; exact Calls.quiet_of_same (CB.out _)))
      go_wp2_with fail
      go_ret
      exact ⟨undef, reti HK.out.symm, by rw [HKJ.out]; exact JStep.same H.out (below_drewN HB2.out _), NewV.undef _⟩
  | false =>
    rw [hth] at q0'
    have HGF : Kp ((J.ps.getD i noPt).there = false) := ⟨by rw [HGD.out, hth]⟩
    clear hth hxv
    go_wp2_with fail
    go_quiet (fail)
    go_wp2_with fail
    have HB3 : Kp (Below w.heap.size w (w2.drewN nq)) := ⟨below_drewN HB2.out _⟩
    have HJ3 : Kp (JIs (w2.drewN nq) g q J) := ⟨H.out.keep HB3.out⟩
    have HP3 : Kp (Blk (w2.drewN nq) F (.cells #[.int .u32 pid, .int .i64 (i : Nat), .int .i64 pm, .slice at_ n c] 30)) := ⟨HP2.out⟩
    have HLn : Kp (lens J.ps ≤ 131072) := ⟨by have := lens_le (ps := J.ps) fun y hy => (H.out.t y hy).2; have := H.out.n; omega⟩
    have Hn4 : Kp (n ≤ 4096) := ⟨by have := HNT.out; have := HL.out; omega⟩
    clear p3' q0' q1' HJ2 HP2 HB2 HV HTV
    generalize w2.drewN nq = w3 at *
    by_cases hov : 16384 < lens J.ps + n
    · have HBG : Kp ((16384 : Int) < (lens J.ps : Nat) + (n : Nat)) := ⟨by omega⟩
      have HK : Kp (keepE J i tp = 8) := ⟨by unfold keepE; rw [HGF.out, if_neg (by decide), if_pos (by rw [← HNT.out]; exact hov)]⟩
      have HKJ : Kp (keepJ J i tp undef = ⟨true, J.id, []⟩) := ⟨by unfold keepJ; rw [HGF.out, if_neg (by decide), if_pos (by rw [← HNT.out]; exact hov)]⟩
      clear hov
      refine wp_region_pred (fun w' => JIs w' g q J ∧ Blk w' F (.cells #[.int .u32 pid, .int .i64 (i : Nat), .int .i64 pm, .slice at_ n c] 30) ∧ Below w.heap.size w w') [0, 1, 2, 3, 4, 5, 6, 7] []
        (fun ι w' v => match ι with
          | 0 => v = jP g
          | 1 => v = .int .i64 (lens J.ps : Nat)
          | 2 => v = .pointer (some ⟨F, 3, none⟩)
          | 3 => v = .slice at_ n c
          | 4 => v = .int .i64 (n : Nat)
          | 5 => v = .int .i64 ((lens J.ps : Nat) + (n : Nat) : Int)
          | _ => v = .bool true)
        [[], [(0, some 33)], [], [(2, some 35)], [(3, some 36)], [(1, some 34), (4, some 37)], [(5, some 38)], [(1, some 34), (6, some 39)]]
        [(0, some 33), (1, some 34), (2, some 35), (3, some 36), (4, some 37), (5, some 38), (6, some 39), (7, some 32)]
        (by kernel_rfl) (by kernel_rfl) (by kernel_rfl) (by kernel_rfl) (by kernel_rfl) (by kernel_rfl) (by decide) (by decide) (fun w1 w2 h hb => ⟨h.1.keep hb, h.2.1.keep hb, h.2.2.trans (hb.mono h.2.2.size)⟩) ?_ ⟨HJ3.out.keep (Below.refl _ _).drew, HP3.out.keep (Below.refl _ _).drew, HB3.out.drew⟩ ?_ ?_
      · intro ι w1 w2 v h hb
        match ι, h with
        | 0, h => exact h
        | 1, h => exact h
        | 2, h => exact h
        | 3, h => exact h
        | 4, h => exact h
        | 5, h => exact h
        | 6, h => exact h
        | 7, h => exact h
        | _ + 8, h => exact h
      · refine ⟨fun γ wx hS h => ?_, fun γ wx hS h => ?_, fun γ wx hS h => ?_, fun γ wx hS h => ?_, fun γ wx hS h => ?_, fun γ wx hS h => ?_, fun γ wx hS h => ?_, fun γ wx hS h => ?_, trivial⟩
        · refine ⟨_, rfl, Or.inl ⟨rfl, predRun_value (v := jP g) (by simp only [putE]; first | rfl | (go_simp; done) | (go_simp; with_reducible rfl) | (go_simp; rfl)) rfl⟩⟩
        · have h0 := h
          have e0 : γ 0 = jP g := h0
          refine ⟨_, rfl, Or.inl ⟨rfl, predRun_call (f := 62) (args := #[jP g]) (by simp only [putE, e0]; go_simp) ?_⟩⟩
          exact (size_any g q J wx hS.1).mono fun e w2 ⟨h1, h2⟩ => ⟨_, h1, rfl, h2⟩
        · refine ⟨_, rfl, ?_⟩
          refine predOp_val (v := .pointer (some ⟨F, 3, none⟩)) ?_ ?_ ?_
          · kernel_rfl
          · simp only [putE]
            go_simp
          · rfl
        · have h2 := h
          have e2 : γ 2 = .pointer (some ⟨F, 3, none⟩) := h2
          have hcell : wx.cell? ⟨F, 3, none⟩ = some (.slice at_ n c) := hS.2.1.cell 3
          refine ⟨_, rfl, ?_⟩
          refine predOp_val (v := .slice at_ n c) ?_ ?_ ?_
          · kernel_rfl
          · simp only [putE, e2]
            go_simp
          · rfl
        · have h3 := h
          have e3 : γ 3 = .slice at_ n c := h3
          refine ⟨_, rfl, ?_⟩
          refine predOp_val (v := .int .i64 (n : Nat)) ?_ ?_ ?_
          · kernel_rfl
          · simp only [putE, e3]
            go_simp
          · rfl
        · obtain ⟨h1, h4⟩ := h
          have e1 : γ 1 = .int .i64 (lens J.ps : Nat) := h1
          have e4 : γ 4 = .int .i64 (n : Nat) := h4
          have hl1 := HLn.out
          have hl2 := Hn4.out
          refine ⟨_, rfl, ?_⟩
          refine predOp_val (v := .int .i64 ((lens J.ps : Nat) + (n : Nat) : Int)) ?_ ?_ ?_
          · kernel_rfl
          · simp only [putE, e1, e4]
            go_simp
            rw [IntKind.wrap_i64]
            omega
          · rfl
        · have h5 := h
          have e5 : γ 5 = .int .i64 ((lens J.ps : Nat) + (n : Nat) : Int) := h5
          have hbg := HBG.out
          refine ⟨_, rfl, ?_⟩
          refine predOp_val (v := .bool true) ?_ ?_ ?_
          · kernel_rfl
          · simp only [putE, e5]
            go_simp
          · rfl
        · obtain ⟨h1, h6⟩ := h
          have e1 : γ 1 = .int .i64 (lens J.ps : Nat) := h1
          have e6 : γ 6 = .bool true := h6
          refine ⟨_, rfl, Or.inl ⟨rfl, predRun_value (v := .bool true) (by simp only [putE, e1, e6]; first | rfl | (go_simp; done) | (go_simp; with_reducible rfl) | (go_simp; rfl)) rfl⟩⟩
      · intro γ w9 hS h
        have e7 : γ 7 = .bool true := h.2.2.2.2.2.2.2
        simp only [putE, Act.put, List.setIfInBounds_toArray, List.set_cons_zero, List.set_cons_succ]
        rw [e7]
        clear h e7
        have HS1 := Kp.mk hS.1
        have HS3 := Kp.mk hS.2.2
        clear hS
        refine wpOps_done ?_
        go_wp2_with fail
        refine (end_any g _ w9 HS1.out.b).mono ?_
        rintro r w5 ⟨rfl, ht⟩
        have HTU := Kp.mk ht
        clear ht
        go_wp2_with fail
        go_ret
        exact ⟨undef, reti HK.out.symm, by rw [HKJ.out]; exact JStep.trans (JStep.same H.out HS3.out) (JStep.ended HS1.out HTU.out), NewV.undef _⟩
        
    · have HBG : Kp (¬ (16384 : Int) < (lens J.ps : Nat) + (n : Nat)) := ⟨by omega⟩
      have HK : Kp (keepE J i tp = 0) := ⟨by unfold keepE; rw [HGF.out, if_neg (by decide), if_neg (by rw [← HNT.out]; exact hov)]⟩
      have HKJ : Kp (∀ v, keepJ J i tp v = { J with ps := J.ps.set i ⟨true, v, tp⟩ }) := ⟨fun v => by unfold keepJ; rw [HGF.out, if_neg (by decide), if_neg (by rw [← HNT.out]; exact hov)]⟩
      clear hov
      refine wp_region_pred (fun w' => JIs w' g q J ∧ Blk w' F (.cells #[.int .u32 pid, .int .i64 (i : Nat), .int .i64 pm, .slice at_ n c] 30) ∧ Below w.heap.size w w') [0, 1, 2, 3, 4, 5, 6, 7] []
        (fun ι w' v => match ι with
          | 0 => v = jP g
          | 1 => v = .int .i64 (lens J.ps : Nat)
          | 2 => v = .pointer (some ⟨F, 3, none⟩)
          | 3 => v = .slice at_ n c
          | 4 => v = .int .i64 (n : Nat)
          | 5 => v = .int .i64 ((lens J.ps : Nat) + (n : Nat) : Int)
          | 6 | 7 => v = .bool false
          | _ => v = .bool true)
        [[], [(0, some 33)], [], [(2, some 35)], [(3, some 36)], [(1, some 34), (4, some 37)], [(5, some 38)], [(1, some 34), (6, some 39)]]
        [(0, some 33), (1, some 34), (2, some 35), (3, some 36), (4, some 37), (5, some 38), (6, some 39), (7, some 32)]
        (by kernel_rfl) (by kernel_rfl) (by kernel_rfl) (by kernel_rfl) (by kernel_rfl) (by kernel_rfl) (by decide) (by decide) (fun w1 w2 h hb => ⟨h.1.keep hb, h.2.1.keep hb, h.2.2.trans (hb.mono h.2.2.size)⟩) ?_ ⟨HJ3.out.keep (Below.refl _ _).drew, HP3.out.keep (Below.refl _ _).drew, HB3.out.drew⟩ ?_ ?_
      · intro ι w1 w2 v h hb
        match ι, h with
        | 0, h => exact h
        | 1, h => exact h
        | 2, h => exact h
        | 3, h => exact h
        | 4, h => exact h
        | 5, h => exact h
        | 6, h => exact h
        | 7, h => exact h
        | _ + 8, h => exact h
      · refine ⟨fun γ wx hS h => ?_, fun γ wx hS h => ?_, fun γ wx hS h => ?_, fun γ wx hS h => ?_, fun γ wx hS h => ?_, fun γ wx hS h => ?_, fun γ wx hS h => ?_, fun γ wx hS h => ?_, trivial⟩
        · refine ⟨_, rfl, Or.inl ⟨rfl, predRun_value (v := jP g) (by simp only [putE]; first | rfl | (go_simp; done) | (go_simp; with_reducible rfl) | (go_simp; rfl)) rfl⟩⟩
        · have h0 := h
          have e0 : γ 0 = jP g := h0
          refine ⟨_, rfl, Or.inl ⟨rfl, predRun_call (f := 62) (args := #[jP g]) (by simp only [putE, e0]; go_simp) ?_⟩⟩
          exact (size_any g q J wx hS.1).mono fun e w2 ⟨h1, h2⟩ => ⟨_, h1, rfl, h2⟩
        · refine ⟨_, rfl, ?_⟩
          refine predOp_val (v := .pointer (some ⟨F, 3, none⟩)) ?_ ?_ ?_
          · kernel_rfl
          · simp only [putE]
            go_simp
          · rfl
        · have h2 := h
          have e2 : γ 2 = .pointer (some ⟨F, 3, none⟩) := h2
          have hcell : wx.cell? ⟨F, 3, none⟩ = some (.slice at_ n c) := hS.2.1.cell 3
          refine ⟨_, rfl, ?_⟩
          refine predOp_val (v := .slice at_ n c) ?_ ?_ ?_
          · kernel_rfl
          · simp only [putE, e2]
            go_simp
          · rfl
        · have h3 := h
          have e3 : γ 3 = .slice at_ n c := h3
          refine ⟨_, rfl, ?_⟩
          refine predOp_val (v := .int .i64 (n : Nat)) ?_ ?_ ?_
          · kernel_rfl
          · simp only [putE, e3]
            go_simp
          · rfl
        · obtain ⟨h1, h4⟩ := h
          have e1 : γ 1 = .int .i64 (lens J.ps : Nat) := h1
          have e4 : γ 4 = .int .i64 (n : Nat) := h4
          have hl1 := HLn.out
          have hl2 := Hn4.out
          refine ⟨_, rfl, ?_⟩
          refine predOp_val (v := .int .i64 ((lens J.ps : Nat) + (n : Nat) : Int)) ?_ ?_ ?_
          · kernel_rfl
          · simp only [putE, e1, e4]
            go_simp
            rw [IntKind.wrap_i64]
            omega
          · rfl
        · have h5 := h
          have e5 : γ 5 = .int .i64 ((lens J.ps : Nat) + (n : Nat) : Int) := h5
          have hbg := HBG.out
          refine ⟨_, rfl, ?_⟩
          refine predOp_val (v := .bool false) ?_ ?_ ?_
          · kernel_rfl
          · simp only [putE, e5]
            go_simp
          · rfl
        · obtain ⟨h1, h6⟩ := h
          have e1 : γ 1 = .int .i64 (lens J.ps : Nat) := h1
          have e6 : γ 6 = .bool false := h6
          refine ⟨_, rfl, Or.inl ⟨rfl, predRun_value (v := .bool false) (by simp only [putE, e1, e6]; first | rfl | (go_simp; done) | (go_simp; with_reducible rfl) | (go_simp; rfl)) rfl⟩⟩
      · intro γ w9 hS h
        have e7 : γ 7 = .bool false := h.2.2.2.2.2.2.2
        simp only [putE, Act.put, List.setIfInBounds_toArray, List.set_cons_zero, List.set_cons_succ]
        rw [e7]
        clear h e7
        have HS1 := Kp.mk hS.1
        have HS3 := Kp.mk hS.2.2
        have p3 : w9.cell? ⟨F, 3, none⟩ = some (.slice at_ n c) := hS.2.1.cell 3
        clear hS
        refine wpOps_done ?_
        go_wp2_with fail
        refine (clone_any w.heap.size _ tp w9 (HT.out.keep HS3.out) (by have := HL.out; omega)).mono ?_
        rintro r w5 ⟨v', rfl, ho, hb⟩
        have HO5 : Kp (HoldsB w5 w5.heap.size v' tp) := ⟨HoldsB.ofRow HT.out.bytes ho⟩
        have HB5 := Kp.mk hb
        have HJ5 : Kp (JIs w5 g q J) := ⟨HS1.out.keep hb⟩
        have HR5 : Kp (Blk w5 q (.cells (pcells J.ps).toArray 94)) := ⟨HJ5.out.r (by have := HI.out; omega)⟩
        have HTH : Kp (w5.there q (i * 2) 2) := ⟨fun j hj => ⟨(HJ5.out.at HI.out).isSome j hj, HR5.out.frozen _⟩⟩
        have HNW : Kp (NewV w.heap.size v') := ⟨(NewV.of ho).mono HS3.out.size⟩
        obtain ⟨a5, m5, c5, rfl⟩ := row_shape ho
        have HTU : Kp (Turn q (.cells (pcells (J.ps.set i ⟨true, .slice a5 m5 c5, tp⟩)).toArray 94) w5 (w5.setCells q (i * 2) [.bool true, .slice a5 m5 c5])) := ⟨turn_part HI.out HR5.out ⟨true, .slice a5 m5 c5, tp⟩⟩
        have H1C : Kp ((#[.bool true, .slice a5 m5 c5] : Array Value).all (·.oneCell') = true) := ⟨all_oneCell_toArray (cs := [.bool true, .slice a5 m5 c5]) (by intro v hv; simp at hv; rcases hv with rfl | rfl <;> rfl)⟩
        clear ho hb
        go_wp2_with (refine wpList_store_mid rfl 94 (.tmp 47) (.tmp 46) rfl q (i * 2) #[.bool true, .slice a5 m5 c5] rfl rfl HTH.out info94s H1C.out ?_; refine wpl_world (Turn q (.cells (pcells (J.ps.set i ⟨true, .slice a5 m5 c5, tp⟩)).toArray 94) w5) HTU.out ?_; intro w6 ht6; have HT6 := Kp.mk ht6; clear ht6)
        go_wp2_with fail
        go_ret
        exact ⟨.slice a5 m5 c5, reti HK.out.symm, by rw [HKJ.out]; exact JStep.trans (JStep.trans (JStep.same H.out HS3.out) (JStep.same HS1.out HB5.out)) (JStep.put HJ5.out HI.out ⟨true, .slice a5 m5 c5, tp⟩ HT6.out ⟨HO5.out, HL.out⟩), HNW.out⟩
        
end Go.Proofs.Ytlgcpfeaecpocaa
