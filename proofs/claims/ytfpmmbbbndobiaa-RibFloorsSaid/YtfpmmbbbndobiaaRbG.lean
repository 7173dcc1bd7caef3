/-
  drop by what Break asks.
-/
import Derived.Test.YtfpmmbbbndobiaaRbF
namespace Go.Proofs.Ytfpmmbbbndobiaa
open Go.RowKit

theorem Blk.otherCells {b g : Nat} {x : Obj} (hne : g ≠ b) : ∀ (vs : List Value) (o : Nat) (w : World), Blk w b x → Blk (w.setCells g o vs) b x
  | [], _, _, h => h
  | v :: r, o, _, h => Blk.otherCells hne r (o + 1) _ (h.setOther (p := ⟨g, o, none⟩) hne v)
def DropPost (T : TB) (now : Int) (q : Nat → OW → Bool) (t : Nat) (w : World) (r : Ending) (w' : World) : Prop :=
  ∃ v, r = .returned v ∧ w'.ownsRow w.heap.size 3 1 v (dropD T (now + T.hold) q 8).2.length (nv (dropD T (now + T.hold) q 8).2) ∧ Turn t (dropD T (now + T.hold) q 8).1.obj w w'
theorem drop_time (fv : Value) (now : Int) (t : Nat) (w : World) (ht : tmB now = false) : Calls Try.prog 52 #[.pointer (some ⟨t, 0, none⟩), .int .i64 now, fv] w fun r w' => r = .returned (.slice none 0 0) ∧ w = w' := by
  have HT := fun w1 => time_any now w1
  rw [ht] at HT
  clear ht
  go_enter Try.func52, Try.ntmps52
  go_wp2_with fail
  refine (HT _).mono ?_
  rintro r w1 ⟨rfl, rfl⟩
  go_wp2_with fail
  go_ret
  exact ⟨rfl, rfl⟩
theorem drop_nil (fv : Value) (now : Int) (w : World) : Calls Try.prog 52 #[.pointer none, .int .i64 now, fv] w fun r w' => r = .returned (.slice none 0 0) ∧ w = w' := by
  go_enter Try.func52, Try.ntmps52
  go_wp2_with fail
  go_ret
  exact ⟨rfl, rfl⟩
/-- What Break asks. -/
def isN (next : Int) : Nat → OW → Bool := fun n _ => ((n : Int) == next)
set_option maxRecDepth 100000 in
set_option maxHeartbeats 6400000 in
theorem drop_break (T : TB) (now next : Int) (t Bx : Nat) (w : World) (h : Blk w t T.obj) (hB : Blk w Bx (.cells #[.int .i64 next] 3)) (ht : tmB now = true) (hh : 0 ≤ T.hold ∧ T.hold ≤ 1048576) (hw : T.Ways) :
    Calls Try.prog 52 #[.pointer (some ⟨t, 0, none⟩), .int .i64 now, .func (.func 53) #[] #[.pointer (some ⟨Bx, 0, none⟩)]] w (DropPost T now (isN next) t w) := by
  have HTM := fun w1 => time_any now w1
  rw [ht] at HTM
  have hs := sum_in ht hh
  have hs' : wrap64 (now + T.hold) = now + T.hold := by rw [← IntWalk.i64_left]; exact hs
  obtain ⟨U, hU⟩ : ∃ U, U = now + T.hold := ⟨_, rfl⟩
  obtain ⟨q, hq⟩ : ∃ q, q = isN next := ⟨_, rfl⟩
  have HQ := Kp.mk hq
  have HWY := Kp.mk hw
  have HTL : Kp (t < w.heap.size ∧ Bx < w.heap.size) := ⟨h.lt, hB.lt⟩
  obtain ⟨i0, hi, hz0, hz1, hz2⟩ := info_parts info3'
  have HBt : Kp (t ≠ Bx) := ⟨fun e => by
    subst e
    have h1 := (show w.heap[t]? = _ from h).symm.trans hB
    injection h1 with e
    injection e with _ e
    exact absurd e (by decide)⟩
  obtain ⟨F, hF⟩ : ∃ F : TB × List Nat, F = dropD T U q 8 := ⟨_, rfl⟩
  have HF := Kp.mk hF
  have HP : Kp (∀ r w', (∃ v, r = .returned v ∧ w'.ownsRow w.heap.size 3 1 v F.2.length (nv F.2) ∧ Turn t F.1.obj w w') → DropPost T now (isN next) t w r w') := ⟨fun r w' hx => by
    unfold DropPost
    rw [← hU, ← hq, ← hF]
    exact hx⟩
  have K0 : Kp (w.ownsRow w.heap.size 3 1 (.slice none 0 0) (dropD T U q 0).2.length (nv (dropD T U q 0).2) ∧ Turn t (dropD T U q 0).1.obj w w ∧ Blk w Bx (.cells #[.int .i64 next] 3)) := ⟨World.ownsRow_nil _ _ _ _, Turn.same h, hB⟩
  have c1 : w.cell? ⟨t, 1, none⟩ = some (.int .i64 T.hold) := h.cell 1
  rw [← hU] at hs hs'
  have HUE := Kp.mk hU
  clear hF hU hq h hB ht hh hw
  go_enter Try.func52, Try.ntmps52
  go_wp2_with fail
  refine (HTM _).mono ?_
  rintro r w1 ⟨rfl, rfl⟩
  go_wp2_with fail
  rw [show now + T.hold = U from HUE.out.symm] at *
  try rw [hs']
  try rw [hs]
  clear c1 hs hs' HTM
  go_loopw [8, 26] (fun v ct wr => ∃ d : Nat, d ≤ 8 ∧ ct = .int .i64 d ∧ Kp (wr.ownsRow w.heap.size 3 1 v (dropD T U q d).2.length (nv (dropD T U q d).2) ∧ Turn t (dropD T U q d).1.obj w wr ∧ Blk wr Bx (.cells #[.int .i64 next] 3))) (fun _ ct _ => 8 - (intOf ct).toNat)
  case atStart => exact ⟨0, by omega, rfl, K0⟩
  case round =>
    obtain ⟨d, hd8, rfl, K1⟩ := hrel
    by_cases hlt : d < 8
    · have HD8 := Kp.mk hlt
      have hlt' : (d : Int) < 8 := by omega
      have HDD : Kp (dropD T U q (d + 1) = ((dropI (dropD T U q d).1 U q d 8).putW d (turnUp (dropI (dropD T U q d).1 U q d 8) d 8), lsI (dropD T U q d).1 q d (dropD T U q d).2 8)) := ⟨rfl⟩
      have HLD := Kp.mk (dropD_len T U q d)
      have HWD := Kp.mk (dropD_ways HWY.out U q hd8)
      obtain ⟨TD, hTD⟩ : ∃ TD, TD = (dropD T U q d).1 := ⟨_, rfl⟩
      obtain ⟨L0, hL0⟩ : ∃ L0, L0 = (dropD T U q d).2 := ⟨_, rfl⟩
      have HDE := Kp.mk (And.intro hTD hL0)
      rw [← hTD, ← hL0] at HDD K1
      rw [← hTD] at HWD
      rw [← hL0] at HLD
      clear hTD hL0
      have HRR : Kp (wr.rangeAt t (3 + d * 216) (rowO TD d)) := ⟨row_range K1.out.2.1.blk hlt⟩
      have HI1 : Kp (wr.ownsRow w.heap.size 3 1 u8 (lsI TD q d L0 0).length (nv (lsI TD q d L0 0)) ∧ Turn t (dropI TD U q d 0).obj w wr ∧ Blk wr Bx (.cells #[.int .i64 next] 3)) := ⟨K1.out⟩
      clear K1
      go_wp2_with (refine wpList_load_mid rfl 102 (.tmp 33) rfl t (3 + d * 216) rfl (rowO TD d) _ HRR.out Try.underlying102 rfl (by rw [rowO_len]; kernel_rfl) ?_)
      clear HRR
      go_loopw [8, 35] (fun v ct wx => ∃ i : Nat, i ≤ 8 ∧ ct = .int .i64 i ∧ Kp (wx.ownsRow w.heap.size 3 1 v (lsI TD q d L0 i).length (nv (lsI TD q d L0 i)) ∧ Turn t (dropI TD U q d i).obj w wx ∧ Blk wx Bx (.cells #[.int .i64 next] 3))) (fun _ ct _ => 8 - (intOf ct).toNat)
      case atStart => exact ⟨0, by omega, rfl, HI1⟩
      case round =>
        obtain ⟨i, hi8, rfl, K2⟩ := hrel
        by_cases hlt2 : i < 8
        · have HI8 := Kp.mk hlt2
          have hlt2' : (i : Int) < 8 := by omega
          have hix := index102 (fun j => TD.off (d * 8 + j)) hlt2
          have HLL := Kp.mk (lsI_len TD q d L0 i)
          have HIS : Kp (dropI TD U q d (i + 1) = if goes TD q d i = true then (dropI TD U q d i).putO (d * 8 + i) (gone U (TD.off (d * 8 + i)).kn.k) else dropI TD U q d i) := ⟨rfl⟩
          have HLS : Kp (lsI TD q d L0 (i + 1) = if goes TD q d i = true ∧ TD.way d = i then lsI TD q d L0 i ++ [d] else lsI TD q d L0 i) := ⟨rfl⟩
          have HG : Kp (goes TD q d i = ((TD.off (d * 8 + i)).stands && ((i : Int) == next))) := ⟨by unfold goes; rw [HQ.out]; rfl⟩
          have HTW : Kp ((dropI TD U q d i).way d = TD.way d) := ⟨by rw [(dropI_way TD U q d i).1]⟩
          obtain ⟨TI, hTI⟩ : ∃ TI, TI = dropI TD U q d i := ⟨_, rfl⟩
          obtain ⟨l, hl⟩ : ∃ l, l = lsI TD q d L0 i := ⟨_, rfl⟩
          rw [← hTI] at HIS HTW
          rw [← hl] at HLS HLL
          rw [← hTI, ← hl] at K2
          have HTIE := Kp.mk (And.intro hTI hl)
          obtain ⟨o, ho⟩ : ∃ o, o = TD.off (d * 8 + i) := ⟨_, rfl⟩
          rw [← ho] at HIS HG hix
          clear ho hTI hl
          replace HLL : Kp (l.length ≤ 128) := ⟨by have := HLL.out; have := HLD.out; have := HD8.out; omega⟩
          obtain ⟨Mb, hMb⟩ : ∃ Mb, Mb = wr.heap.size := ⟨_, rfl⟩
          have HMb := Kp.mk hMb
          have HMt : Kp (t ≠ Mb) := ⟨by rw [hMb]; exact Nat.ne_of_lt K2.out.2.1.blk.lt⟩
          clear hMb
          go_upto_region 11 with (first
            | (refine wpList_store_row rfl 101 (.tmp 11) (.tmp 38) rfl wr.heap.size (owc o).toArray rfl rfl 101 _ (Blk.newAt _ rfl) (info101s o) rfl (all_oneCell_toArray (owc_one o)) ?_
               rw [World.setRow_alloc_new]
               have K3 : Kp (Turn t TI.obj w (wr.alloc o.obj) ∧ (wr.alloc o.obj).ownsRow w.heap.size 3 1 u8 l.length (nv l) ∧ Blk (wr.alloc o.obj) Mb o.obj ∧ Blk (wr.alloc o.obj) Bx (.cells #[.int .i64 next] 3)) := ⟨K2.out.2.1.alloc _, K2.out.1.alloc _, Blk.newAt _ HMb.out, K2.out.2.2.old _⟩
               rw [← HMb.out]
               revert K3
               generalize wr.alloc o.obj = w3
               intro K3))
          clear K2 hix HMb
          obtain ⟨o0, o1, o3, o4, o5⟩ := owc_at K3.out.2.2.1
          cases hst : o.stands with
          | false =>
            rw [hst] at o0
            have HNG : Kp (goes TD q d i = false) := ⟨by rw [HG.out, hst]; rfl⟩
            clear hst
            go_wp2_with fail
            exact ⟨⟨i + 1, by omega, by go_num, ⟨by rw [HLS.out, if_neg (by rw [HNG.out]; simp)]; exact K3.out.2.1, by rw [HIS.out, if_neg (by rw [HNG.out]; simp)]; exact K3.out.1, K3.out.2.2.2⟩⟩, by simp [intOf]; omega⟩
          | true =>
            rw [hst] at o0
            have HG2 : Kp (goes TD q d i = ((i : Int) == next)) := ⟨by rw [HG.out, hst]; rfl⟩
            clear hst
            go_wp2_with (refine BigFrame.wpList_want ?hw (fun K hK => wp_load_row 101 (.tmp 11) rfl Mb rfl 101 (owc o).toArray (0, 0) _ K3.out.2.2.1 Try.underlying101 rfl (info101s _) (hK _ _ ?_)); case hw => rfl)
            refine (breakq_any next i o Bx w3 K3.out.2.2.2).mono ?_
            rintro r w5 ⟨rfl, hb⟩
            have K5 : Kp (Turn t TI.obj w w5 ∧ w5.ownsRow w.heap.size 3 1 u8 l.length (nv l) ∧ Blk w5 Mb o.obj ∧ Blk w5 Bx (.cells #[.int .i64 next] 3)) := ⟨K3.out.1.more hb, ownsRow_below K3.out.2.1 hb, K3.out.2.2.1.keep hb, K3.out.2.2.2.keep hb⟩
            clear hb K3 o0 o1 o3 o4 o5
            cases hn : ((i : Int) == next) with
            | false =>
              have HNG : Kp (goes TD q d i = false) := ⟨by rw [HG2.out, hn]⟩
              clear hn
              go_wp2_with fail
              exact ⟨⟨i + 1, by omega, by go_num, ⟨by rw [HLS.out, if_neg (by rw [HNG.out]; simp)]; exact K5.out.2.1, by rw [HIS.out, if_neg (by rw [HNG.out]; simp)]; exact K5.out.1, K5.out.2.2.2⟩⟩, by simp [intOf]; omega⟩
            | true =>
              have HNG : Kp (goes TD q d i = true) := ⟨by rw [HG2.out, hn]⟩
              clear hn
              go_wp2_with fail
              refine wp_region_held_drew (S := fun w' => Blk w' Mb o.obj) (by kernel_rfl) (K5.out.2.2.1.draw) (fun hH => ?_)
              refine wpAnyH_take (i := 0) (oi := { dst := some 49, op := Go.Op.move (Go.Operand.tmp 0), type := 25, pos := "offer.go:95", after := #[], guard := none }) (v := .pointer (some ⟨t, 0, none⟩)) rfl (by kernel_rfl) (by kernel_rfl) (by kernel_rfl) (fun _ _ _ h => h) (Or.inl ⟨by rfl, fun w hS => by go_simp⟩) hH ?_
              simp only [Act.put, List.setIfInBounds_toArray, List.set_cons_zero, List.set_cons_succ]
              refine wpAnyH_take (i := 1) (oi := { dst := some 50, op := Go.Op.move (Go.Operand.tmp 9), type := 3, pos := "offer.go:95", after := #[], guard := none }) (v := .int .i64 d) rfl (by kernel_rfl) (by kernel_rfl) (by kernel_rfl) (fun _ _ _ h => h) (Or.inl ⟨by rfl, fun w hS => by go_simp⟩) hH ?_
              simp only [Act.put, List.setIfInBounds_toArray, List.set_cons_zero, List.set_cons_succ]
              refine wpAnyH_take (i := 2) (oi := { dst := some 51, op := Go.Op.move (Go.Operand.tmp 10), type := 3, pos := "offer.go:95", after := #[], guard := none }) (v := .int .i64 i) rfl (by kernel_rfl) (by kernel_rfl) (by kernel_rfl) (fun _ _ _ h => h) (Or.inl ⟨by rfl, fun w hS => by go_simp⟩) hH ?_
              simp only [Act.put, List.setIfInBounds_toArray, List.set_cons_zero, List.set_cons_succ]
              refine wpAnyH_take (i := 3) (oi := { dst := some 52, op := Go.Op.move (Go.Operand.tmp 7), type := 2, pos := "offer.go:95", after := #[], guard := none }) (v := .int .i64 U) rfl (by kernel_rfl) (by kernel_rfl) (by kernel_rfl) (fun _ _ _ h => h) (Or.inl ⟨by rfl, fun w hS => by go_simp⟩) hH ?_
              simp only [Act.put, List.setIfInBounds_toArray, List.set_cons_zero, List.set_cons_succ]
              refine wpAnyH_take (i := 4) (oi := { dst := some 53, op := Go.Op.fieldAddr 101 (Go.Operand.tmp 11) 2, type := 0, pos := "offer.go:95", after := #[], guard := none }) (v := .pointer (some ⟨Mb, 2, none⟩)) rfl (by kernel_rfl) (by kernel_rfl) (by kernel_rfl) (fun _ _ _ h => h) (Or.inl ⟨by rfl, fun w hS => by go_simp⟩) hH ?_
              simp only [Act.put, List.setIfInBounds_toArray, List.set_cons_zero, List.set_cons_succ]
              refine wpAnyH_take (i := 5) (oi := { dst := some 54, op := Go.Op.fieldAddr 51 (Go.Operand.tmp 53) 1, type := 0, pos := "offer.go:95", after := #[{ on := 4, ground := Go.Ground.data }], guard := none }) (v := .pointer (some ⟨Mb, 3, none⟩)) rfl (by kernel_rfl) (by kernel_rfl) (by kernel_rfl) (fun _ _ _ h => h) (Or.inl ⟨by rfl, fun w hS => by go_simp⟩) hH ?_
              simp only [Act.put, List.setIfInBounds_toArray, List.set_cons_zero, List.set_cons_succ]
              refine wpAnyH_take (i := 6) (oi := { dst := some 55, op := Go.Op.load 47 (Go.Operand.tmp 54), type := 47, pos := "offer.go:95", after := #[{ on := 5, ground := Go.Ground.data }], guard := none }) (v := keyV o.kn.k) rfl (by kernel_rfl) (by kernel_rfl) (by kernel_rfl) (fun _ _ _ h => h) (Or.inl ⟨by rfl, fun w hS => exec_load_mid (cs := kc o.kn.k) rfl rfl (hS.range (o := 3) rfl) Try.underlying47 rfl (by kernel_rfl)⟩) hH ?_
              simp only [Act.put, List.setIfInBounds_toArray, List.set_cons_zero, List.set_cons_succ]
              refine wpAnyH_take (i := 7) (oi := { dst := some 56, op := Go.Op.build 101 #[(3, Go.Operand.tmp 52), (4, Go.Operand.tmp 55)], type := 101, pos := "offer.go:95", after := #[{ on := 3, ground := Go.Ground.data }, { on := 6, ground := Go.Ground.data }], guard := none }) (v := .agg (owc (gone U o.kn.k)).toArray) rfl (by kernel_rfl) (by kernel_rfl) (by kernel_rfl) (fun _ _ _ h => h) (Or.inl ⟨by rfl, fun w hS => exec_build 101 #[(3, .tmp 52), (4, .tmp 55)] rfl #[(3, .int .i64 U), (4, keyV o.kn.k)] (by simp only [List.map_toArray, List.map_cons, List.map_nil]; rfl) _ (built101 U o.kn.k)⟩) hH ?_
              simp only [Act.put, List.setIfInBounds_toArray, List.set_cons_zero, List.set_cons_succ]
              refine wpAnyH_take (i := 8) (oi := { dst := some 57, op := Go.Op.nilCheck (Go.Operand.tmp 49), type := 0, pos := "offer.go:95", after := #[{ on := 0, ground := Go.Ground.data }], guard := none }) (v := .pointer (some ⟨t, 0, none⟩)) rfl (by kernel_rfl) (by kernel_rfl) (by kernel_rfl) (fun _ _ _ h => h) (Or.inl ⟨by rfl, fun w hS => by go_simp⟩) hH ?_
              simp only [Act.put, List.setIfInBounds_toArray, List.set_cons_zero, List.set_cons_succ]
              refine wpAnyH_take (i := 9) (oi := { dst := some 58, op := Go.Op.fieldAddr 105 (Go.Operand.tmp 57) 2, type := 0, pos := "offer.go:95", after := #[{ on := 8, ground := Go.Ground.data }], guard := none }) (v := .pointer (some ⟨t, 3, none⟩)) rfl (by kernel_rfl) (by kernel_rfl) (by kernel_rfl) (fun _ _ _ h => h) (Or.inl ⟨by rfl, fun w hS => by go_simp⟩) hH ?_
              simp only [Act.put, List.setIfInBounds_toArray, List.set_cons_zero, List.set_cons_succ]
              refine wpAnyH_take (i := 10) (oi := { dst := some 59, op := Go.Op.indexAddr 103 (Go.Operand.tmp 58) (Go.Operand.tmp 50), type := 0, pos := "offer.go:95", after := #[{ on := 9, ground := Go.Ground.data }, { on := 1, ground := Go.Ground.data }], guard := none }) (v := .pointer (some ⟨t, 3 + d * 216, none⟩)) rfl (by kernel_rfl) (by kernel_rfl) (by kernel_rfl) (fun _ _ _ h => h) (Or.inl ⟨by rfl, fun w hS => by go_simp⟩) hH ?_
              simp only [Act.put, List.setIfInBounds_toArray, List.set_cons_zero, List.set_cons_succ]
              refine wpAnyH_take (i := 11) (oi := { dst := some 60, op := Go.Op.indexAddr 102 (Go.Operand.tmp 59) (Go.Operand.tmp 51), type := 0, pos := "offer.go:95", after := #[{ on := 10, ground := Go.Ground.data }, { on := 2, ground := Go.Ground.data }, { on := 0, ground := Go.Ground.phase }, { on := 1, ground := Go.Ground.phase }, { on := 2, ground := Go.Ground.phase }, { on := 3, ground := Go.Ground.phase }, { on := 4, ground := Go.Ground.phase }, { on := 5, ground := Go.Ground.phase }, { on := 6, ground := Go.Ground.phase }, { on := 7, ground := Go.Ground.phase }], guard := none }) (v := .pointer (some ⟨t, 3 + d * 216 + i * 27, none⟩)) rfl (by kernel_rfl) (by kernel_rfl) (by kernel_rfl) (fun _ _ _ h => h) (Or.inl ⟨by rfl, fun w hS => by go_simp⟩) hH ?_
              simp only [Act.put, List.setIfInBounds_toArray, List.set_cons_zero, List.set_cons_succ]
              refine wpAnyH_ready (rs := [12]) (by kernel_rfl) (by simp) ?_
              refine AllReadyH.cons (o := { dst := none, op := Go.Op.store 101 (Go.Operand.tmp 60) (Go.Operand.tmp 56), type := 0, pos := "offer.go:95", after := #[{ on := 11, ground := Go.Ground.data }, { on := 7, ground := Go.Ground.data }, { on := 0, ground := Go.Ground.phase }, { on := 1, ground := Go.Ground.phase }, { on := 2, ground := Go.Ground.phase }, { on := 3, ground := Go.Ground.phase }, { on := 4, ground := Go.Ground.phase }, { on := 5, ground := Go.Ground.phase }, { on := 6, ground := Go.Ground.phase }, { on := 7, ground := Go.Ground.phase }], guard := none }) rfl (fun K hK => ?_) AllReadyH.nil
              refine wp_store_mid 101 (.tmp 60) (.tmp 56) rfl t (3 + d * 216 + i * 27) (owc (gone U o.kn.k)).toArray rfl rfl (Blk.there K5.out.1.blk.draw (by rw [tc_len]; have := HD8.out; have := HI8.out; show 3 + d * 216 + i * 27 + 27 ≤ 1739; omega)) (info101s _) (all_oneCell_toArray (owc_one _)) ?_
              have K6 : Kp (Turn t (TI.putO (d * 8 + i) (gone U o.kn.k)).obj w (w5.drew.setCells t (3 + d * 216 + i * 27) (owc (gone U o.kn.k)).toArray.toList) ∧ (w5.drew.setCells t (3 + d * 216 + i * 27) (owc (gone U o.kn.k)).toArray.toList).ownsRow w.heap.size 3 1 u8 l.length (nv l) ∧ Blk (w5.drew.setCells t (3 + d * 216 + i * 27) (owc (gone U o.kn.k)).toArray.toList) Mb o.obj ∧ Blk (w5.drew.setCells t (3 + d * 216 + i * 27) (owc (gone U o.kn.k)).toArray.toList) Bx (.cells #[.int .i64 next] 3)) := ⟨K5.out.1.drew.putO HD8.out HI8.out _, row_turn (w := w5.drew) K5.out.2.1 K5.out.1.blk.draw (by decide) ((Turn.same K5.out.1.blk.draw).putO HD8.out HI8.out (gone U o.kn.k)), Blk.otherCells HMt.out _ _ _ K5.out.2.2.1.draw, Blk.otherCells HBt.out _ _ _ K5.out.2.2.2.draw⟩
              refine hK.out _ _ (K6.out.2.2.1) (fun hHn => ?_)
              clear hK K hH
              have hH := hHn
              clear hHn
              try simp only [Act.put, List.setIfInBounds_toArray, List.set_cons_zero, List.set_cons_succ]
              clear hH
              refine wpAnyH_done (by kernel_rfl) ?_ _
              clear K5
              revert K6
              generalize World.setCells _ _ _ _ = w6
              intro K6
              obtain ⟨TO, hTO⟩ : ∃ TO, TO = TI.putO (d * 8 + i) (gone U o.kn.k) := ⟨_, rfl⟩
              have HTO : Kp (dropI TD U q d (i + 1) = TO ∧ TO.way d = TD.way d) := ⟨by rw [HIS.out, if_pos HNG.out, hTO], by rw [hTO]; exact HTW.out⟩
              rw [← hTO] at K6
              clear hTO
              have c0 : w6.cell? ⟨t, 1731 + d, none⟩ = some (.int .i64 (TD.way d)) := (K6.out.1.blk.cell _).trans (by rw [List.getElem?_toArray, tc_way TO HD8.out, HTO.out.2])
              by_cases hwi : TD.way d = i
              · have HLX : Kp (lsI TD q d L0 (i + 1) = l ++ [d]) := ⟨by rw [HLS.out, if_pos ⟨HNG.out, hwi⟩]⟩
                rw [hwi] at c0
                clear hwi
                go_wp2_with (at_builtin; refine wpList_append_own _ rfl _ _ 58 rfl w.heap.size 3 i0 (.int .i64 0) 1 8 Try.underlying58 hi hz0 hz1 hz2 rfl (by decide) _ l.length (nv l) rfl (K6.out.2.1.alloc _) ⟨_, 0, none⟩ 1 1 [.int .i64 d] rfl rfl ?c1 ?c2 ?c3 ?c4 ?c5 ?_)
                case c1 =>
                  intro j u hj
                  match j, hj with
                  | 0, hj => simp at hj; subst hj; simp [Addr.add]
                case c2 =>
                  intro u hu
                  simp at hu
                  subst hu
                  rfl
                case c3 => have := HLL.out; unfold maxLen; omega
                case c4 => have := HLL.out; omega
                case c5 => have := K6.out.1.size; simp; omega
                · intro v' w9 hown' hgrow _
                  have hbl : Below w.heap.size w6 w9 := (more (Below.refl _ _) _ |>.mono K6.out.1.size).trans (below_row_grown (Below.refl _ _) (by have := K6.out.1.size; simp; omega) (K6.out.2.1.alloc _) hgrow)
                  have K9 : Kp (w9.ownsRow w.heap.size 3 1 v' (l ++ [d]).length (nv (l ++ [d])) ∧ Turn t TO.obj w w9 ∧ Blk w9 Bx (.cells #[.int .i64 next] 3)) := ⟨by simpa [nv] using hown', K6.out.1.upto hbl (Nat.le_refl _) HTL.out.1, (hbl.block _ HTL.out.2).trans K6.out.2.2.2⟩
                  clear hown' hgrow hbl K6 c0
                  go_wp2_with fail
                  exact ⟨⟨i + 1, by omega, by go_num, ⟨by rw [HLX.out]; exact K9.out.1, by rw [HTO.out.1]; exact K9.out.2.1, K9.out.2.2⟩⟩, by simp [intOf]; omega⟩
              · have HLX : Kp (lsI TD q d L0 (i + 1) = l) := ⟨by rw [HLS.out, if_neg (fun h => hwi h.2)]⟩
                have hwi' : ((i : Int) == TD.way d) = false := by simp; omega
                clear hwi
                go_wp2_with fail
                exact ⟨⟨i + 1, by omega, by go_num, ⟨by rw [HLX.out]; exact K6.out.2.1, by rw [HTO.out.1]; exact K6.out.1, K6.out.2.2.2⟩⟩, by simp [intOf]; omega⟩
        · have hi8e : i = 8 := by omega
          obtain ⟨TI, hTI⟩ : ∃ TI, TI = dropI TD U q d i := ⟨_, rfl⟩
          obtain ⟨l, hl⟩ : ∃ l, l = lsI TD q d L0 i := ⟨_, rfl⟩
          have HDX : Kp (dropD T U q (d + 1) = (TI.putW d (turnUp TI d 8), l)) := ⟨by rw [HDD.out, hTI, hl, hi8e]⟩
          have HTW : Kp (0 ≤ TI.way d ∧ TI.way d < 8) := ⟨by rw [hTI, (dropI_way TD U q d i).1]; exact HWD.out d HD8.out⟩
          rw [← hTI, ← hl] at K2
          have hnlt : ¬ (i : Int) < 8 := by omega
          clear hTI hl hi8e hlt2
          go_wp2_with fail
          refine (turn_any TI t d _ K2.out.2.1.blk HD8.out HTW.out).mono ?_
          rintro r w9 ⟨rfl, hT⟩
          have K9 : Kp (w9.ownsRow w.heap.size 3 1 u8 l.length (nv l) ∧ Turn t (TI.putW d (turnUp TI d 8)).obj w w9 ∧ Blk w9 Bx (.cells #[.int .i64 next] 3)) := ⟨row_turn K2.out.1 K2.out.2.1.blk (by decide) hT, K2.out.2.1.trans hT, hT.keep K2.out.2.2 HBt.out.symm⟩
          clear hT K2
          generalize turnUp TI d 8 = x9 at *
          go_wp2_with fail
          exact ⟨⟨d + 1, by omega, by go_num, ⟨by rw [HDX.out]; exact K9.out.1, by rw [HDX.out]; exact K9.out.2.1, K9.out.2.2⟩⟩, by simp [intOf]; omega⟩
    · have hd : d = 8 := by omega
      have HDF : Kp (F = dropD T U q d) := ⟨by rw [HF.out, hd]⟩
      rw [← HDF.out] at K1
      have hnlt : ¬ (d : Int) < 8 := by omega
      clear hd hlt
      go_wp2_with fail
      go_ret
      exact HP.out _ _ ⟨_, rfl, K1.out.1, K1.out.2.1⟩
end Go.Proofs.Ytfpmmbbbndobiaa
