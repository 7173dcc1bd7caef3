/-
  drop by what Expire asks; Expire.
-/
import Derived.Test.YtfpmmbbbndobiaaRbH
import Derived.BigQuiet
namespace Go.Proofs.Ytfpmmbbbndobiaa
open Go.RowKit

/-- What Expire asks. -/
def isX (now life : Int) : Nat → OW → Bool := fun _ o => decide (life ≤ IntKind.i64.wrap (now - o.told))
/-- The boxes of what Expire's question has caught. -/
structure EX (now : Int) (t Bn Bt : Nat) (w : World) : Prop where
  n : Blk w Bn (.cells #[.int .i64 now] 2)
  b : Blk w Bt (.cells #[.pointer (some ⟨t, 0, none⟩)] 25)
theorem EX.old {now : Int} {t Bn Bt : Nat} {w : World} (h : EX now t Bn Bt w) (o : Obj) : EX now t Bn Bt (w.alloc o) := ⟨h.n.old _, h.b.old _⟩
theorem EX.keep {now : Int} {t Bn Bt : Nat} {w w' : World} (h : EX now t Bn Bt w) (hb : Below w.heap.size w w') : EX now t Bn Bt w' := ⟨h.n.keep hb, h.b.keep hb⟩
theorem EX.draw {now : Int} {t Bn Bt : Nat} {w : World} (h : EX now t Bn Bt w) : EX now t Bn Bt w.drew := ⟨h.n.draw, h.b.draw⟩
theorem EX.otherCells {now : Int} {t Bn Bt : Nat} (hne : t ≠ Bn ∧ t ≠ Bt) (vs : List Value) (o : Nat) (w : World) (h : EX now t Bn Bt w) : EX now t Bn Bt (w.setCells t o vs) := ⟨Blk.otherCells hne.1 _ _ _ h.n, Blk.otherCells hne.2 _ _ _ h.b⟩
theorem EX.upto {now : Int} {t Bn Bt B : Nat} {w w' : World} (h : EX now t Bn Bt w) (hb : Below B w w') (hl : Bn < B ∧ Bt < B) : EX now t Bn Bt w' := ⟨(hb.block _ hl.1).trans h.n, (hb.block _ hl.2).trans h.b⟩
theorem EX.turn {now : Int} {t Bn Bt : Nat} {o : Obj} {w w' : World} (h : EX now t Bn Bt w) (hT : Turn t o w w') (hne : t ≠ Bn ∧ t ≠ Bt) : EX now t Bn Bt w' := ⟨hT.keep h.n hne.1.symm, hT.keep h.b hne.2.symm⟩
theorem expq_any (now life : Int) (n : Int) (o : OW) (t Bn Bt : Nat) (w : World) (h : EX now t Bn Bt w) (hl : w.cell? ⟨t, 2, none⟩ = some (.int .i64 life)) :
    Calls Try.prog 54 #[.int .i64 n, .agg (owc o).toArray, .pointer (some ⟨Bn, 0, none⟩), .pointer (some ⟨Bt, 0, none⟩)] w fun r w' => r = .returned (.bool (decide (life ≤ IntKind.i64.wrap (now - o.told)))) ∧ Below w.heap.size w w' := by
  have hA := fun (w : World) => box_row (t := 101) (cs := owc o) (info101s o) w
  have htl : t < w.heap.size := World.block_lt_of_cell? w _ hl
  have d0 : (w.alloc o.obj).cell? ⟨Bn, 0, none⟩ = some (.int .i64 now) := (h.n.old _).one.1
  have d1 : (w.alloc o.obj).cell? ⟨Bt, 0, none⟩ = some (.pointer (some ⟨t, 0, none⟩)) := (h.b.old _).one.1
  have d2 : (w.alloc o.obj).cell? ⟨t, 2, none⟩ = some (.int .i64 life) := ((more (Below.refl _ _) o.obj).cell (p := ⟨t, 2, none⟩) htl).trans hl
  have d3 : (w.alloc o.obj).cell? ⟨w.heap.size, 1, none⟩ = some (.int .i64 o.told) := (Blk.new w o.obj).cell 1
  have HB : Kp (∀ k, Below w.heap.size w ((w.alloc o.obj).drewN k)) := ⟨fun k => Below.drewNs (more (Below.refl _ _) _) k⟩
  clear h hl htl
  go_enter Try.func54, Try.ntmps54
  go_wp2_with (refine wpList_box_eq rfl 101 (.tmp 1) rfl _ rfl _ _ (hA _) ?_)
  clear hA
  generalize w.alloc o.obj = w1 at *
  go_quiet (fail)
  go_wp2_with fail
  go_ret
  exact ⟨by first | rfl | simp [IntWalk.i64_left], HB.out _⟩
set_option maxRecDepth 100000 in
set_option maxHeartbeats 6400000 in
theorem drop_expire (T : TB) (now : Int) (t Bn Bt : Nat) (w : World) (h : Blk w t T.obj) (hB : EX now t Bn Bt w) (ht : tmB now = true) (hh : 0 ≤ T.hold ∧ T.hold ≤ 1048576) (hw : T.Ways) :
    Calls Try.prog 52 #[.pointer (some ⟨t, 0, none⟩), .int .i64 now, .func (.func 54) #[] #[.pointer (some ⟨Bn, 0, none⟩), .pointer (some ⟨Bt, 0, none⟩)]] w (DropPost T now (isX now T.life) t w) := by
  have HTM := fun w1 => time_any now w1
  rw [ht] at HTM
  have hs := sum_in ht hh
  have hs' : wrap64 (now + T.hold) = now + T.hold := by rw [← IntWalk.i64_left]; exact hs
  obtain ⟨U, hU⟩ : ∃ U, U = now + T.hold := ⟨_, rfl⟩
  obtain ⟨q, hq⟩ : ∃ q, q = isX now T.life := ⟨_, rfl⟩
  have HQ := Kp.mk hq
  have HWY := Kp.mk hw
  have HTL : Kp (t < w.heap.size ∧ (Bn < w.heap.size ∧ Bt < w.heap.size)) := ⟨h.lt, hB.n.lt, hB.b.lt⟩
  obtain ⟨i0, hi, hz0, hz1, hz2⟩ := info_parts info3'
  have HBt : Kp (t ≠ Bn ∧ t ≠ Bt) := ⟨fun e => by
    subst e
    have h1 := (show w.heap[t]? = _ from h).symm.trans hB.n
    injection h1 with e
    injection e with _ e
    exact absurd e (by decide), fun e => by
    subst e
    have h1 := (show w.heap[t]? = _ from h).symm.trans hB.b
    injection h1 with e
    injection e with _ e
    exact absurd e (by decide)⟩
  obtain ⟨F, hF⟩ : ∃ F : TB × List Nat, F = dropD T U q 8 := ⟨_, rfl⟩
  have HF := Kp.mk hF
  have HP : Kp (∀ r w', (∃ v, r = .returned v ∧ w'.ownsRow w.heap.size 3 1 v F.2.length (nv F.2) ∧ Turn t F.1.obj w w') → DropPost T now (isX now T.life) t w r w') := ⟨fun r w' hx => by
    unfold DropPost
    rw [← hU, ← hq, ← hF]
    exact hx⟩
  have K0 : Kp (w.ownsRow w.heap.size 3 1 (.slice none 0 0) (dropD T U q 0).2.length (nv (dropD T U q 0).2) ∧ Turn t (dropD T U q 0).1.obj w w ∧ EX now t Bn Bt w) := ⟨World.ownsRow_nil _ _ _ _, Turn.same h, hB⟩
  have c1 : w.cell? ⟨t, 1, none⟩ = some (.int .i64 T.hold) := h.cell 1
  rw [← hU] at hs hs'
  have HUE := Kp.mk hU
  clear hF hU hq h hB ht hh hw
  go_enter Try.func52, Try.ntmps52
  go_wp2_with fail
  refine (HTM _).mono ?_
  rintro r w1 ⟨rfl, rfl⟩
  go_wp2_with fail
  rw [show now + T.hold = U from HUE.out.symm] at *
  try rw [hs']
  try rw [hs]
  clear c1 hs hs' HTM
  go_loopw [8, 26] (fun v ct wr => ∃ d : Nat, d ≤ 8 ∧ ct = .int .i64 d ∧ Kp (wr.ownsRow w.heap.size 3 1 v (dropD T U q d).2.length (nv (dropD T U q d).2) ∧ Turn t (dropD T U q d).1.obj w wr ∧ EX now t Bn Bt wr)) (fun _ ct _ => 8 - (intOf ct).toNat)
  case atStart => exact ⟨0, by omega, rfl, K0⟩
  case round =>
    obtain ⟨d, hd8, rfl, K1⟩ := hrel
    by_cases hlt : d < 8
    · have HD8 := Kp.mk hlt
      have hlt' : (d : Int) < 8 := by omega
      have HDD : Kp (dropD T U q (d + 1) = ((dropI (dropD T U q d).1 U q d 8).putW d (turnUp (dropI (dropD T U q d).1 U q d 8) d 8), lsI (dropD T U q d).1 q d (dropD T U q d).2 8)) := ⟨rfl⟩
      have HLD := Kp.mk (dropD_len T U q d)
      have HWD := Kp.mk (dropD_ways HWY.out U q hd8)
      obtain ⟨TD, hTD⟩ : ∃ TD, TD = (dropD T U q d).1 := ⟨_, rfl⟩
      obtain ⟨L0, hL0⟩ : ∃ L0, L0 = (dropD T U q d).2 := ⟨_, rfl⟩
      have HDE := Kp.mk (And.intro hTD hL0)
      rw [← hTD, ← hL0] at HDD K1
      rw [← hTD] at HWD
      rw [← hL0] at HLD
      clear hTD hL0
      have HRR : Kp (wr.rangeAt t (3 + d * 216) (rowO TD d)) := ⟨row_range K1.out.2.1.blk hlt⟩
      have HI1 : Kp (wr.ownsRow w.heap.size 3 1 u8 (lsI TD q d L0 0).length (nv (lsI TD q d L0 0)) ∧ Turn t (dropI TD U q d 0).obj w wr ∧ EX now t Bn Bt wr) := ⟨K1.out⟩
      clear K1
      go_wp2_with (refine wpList_load_mid rfl 102 (.tmp 33) rfl t (3 + d * 216) rfl (rowO TD d) _ HRR.out Try.underlying102 rfl (by rw [rowO_len]; kernel_rfl) ?_)
      clear HRR
      go_loopw [8, 35] (fun v ct wx => ∃ i : Nat, i ≤ 8 ∧ ct = .int .i64 i ∧ Kp (wx.ownsRow w.heap.size 3 1 v (lsI TD q d L0 i).length (nv (lsI TD q d L0 i)) ∧ Turn t (dropI TD U q d i).obj w wx ∧ EX now t Bn Bt wx)) (fun _ ct _ => 8 - (intOf ct).toNat)
      case atStart => exact ⟨0, by omega, rfl, HI1⟩
      case round =>
        obtain ⟨i, hi8, rfl, K2⟩ := hrel
        by_cases hlt2 : i < 8
        · have HI8 := Kp.mk hlt2
          have hlt2' : (i : Int) < 8 := by omega
          have hix := index102 (fun j => TD.off (d * 8 + j)) hlt2
          have HLL := Kp.mk (lsI_len TD q d L0 i)
          have HIS : Kp (dropI TD U q d (i + 1) = if goes TD q d i = true then (dropI TD U q d i).putO (d * 8 + i) (gone U (TD.off (d * 8 + i)).kn.k) else dropI TD U q d i) := ⟨rfl⟩
          have HLS : Kp (lsI TD q d L0 (i + 1) = if goes TD q d i = true ∧ TD.way d = i then lsI TD q d L0 i ++ [d] else lsI TD q d L0 i) := ⟨rfl⟩
          have HG : Kp (goes TD q d i = ((TD.off (d * 8 + i)).stands && decide (T.life ≤ IntKind.i64.wrap (now - (TD.off (d * 8 + i)).told)))) := ⟨by unfold goes; rw [HQ.out]; rfl⟩
          have HTW : Kp ((dropI TD U q d i).way d = TD.way d) := ⟨by rw [(dropI_way TD U q d i).1]⟩
          have HTW2 : Kp ((dropI TD U q d i).life = T.life) := ⟨by rw [(dropI_way TD U q d i).2.2.2, HDE.out.1, (dropD_hold T U q d).2.2]⟩
          obtain ⟨TI, hTI⟩ : ∃ TI, TI = dropI TD U q d i := ⟨_, rfl⟩
          obtain ⟨l, hl⟩ : ∃ l, l = lsI TD q d L0 i := ⟨_, rfl⟩
          rw [← hTI] at HIS HTW HTW2
          rw [← hl] at HLS HLL
          rw [← hTI, ← hl] at K2
          have HTIE := Kp.mk (And.intro hTI hl)
          obtain ⟨o, ho⟩ : ∃ o, o = TD.off (d * 8 + i) := ⟨_, rfl⟩
          rw [← ho] at HIS HG hix
          clear ho hTI hl
          replace HLL : Kp (l.length ≤ 128) := ⟨by have := HLL.out; have := HLD.out; have := HD8.out; omega⟩
          obtain ⟨Mb, hMb⟩ : ∃ Mb, Mb = wr.heap.size := ⟨_, rfl⟩
          have HMb := Kp.mk hMb
          have HMt : Kp (t ≠ Mb) := ⟨by rw [hMb]; exact Nat.ne_of_lt K2.out.2.1.blk.lt⟩
          clear hMb
          go_upto_region 11 with (first
            | (refine wpList_store_row rfl 101 (.tmp 11) (.tmp 38) rfl wr.heap.size (owc o).toArray rfl rfl 101 _ (Blk.newAt _ rfl) (info101s o) rfl (all_oneCell_toArray (owc_one o)) ?_
               rw [World.setRow_alloc_new]
               have K3 : Kp (Turn t TI.obj w (wr.alloc o.obj) ∧ (wr.alloc o.obj).ownsRow w.heap.size 3 1 u8 l.length (nv l) ∧ Blk (wr.alloc o.obj) Mb o.obj ∧ EX now t Bn Bt (wr.alloc o.obj)) := ⟨K2.out.2.1.alloc _, K2.out.1.alloc _, Blk.newAt _ HMb.out, K2.out.2.2.old _⟩
               rw [← HMb.out]
               revert K3
               generalize wr.alloc o.obj = w3
               intro K3))
          clear K2 hix HMb
          obtain ⟨o0, o1, o3, o4, o5⟩ := owc_at K3.out.2.2.1
          cases hst : o.stands with
          | false =>
            rw [hst] at o0
            have HNG : Kp (goes TD q d i = false) := ⟨by rw [HG.out, hst]; rfl⟩
            clear hst
            go_wp2_with fail
            exact ⟨⟨i + 1, by omega, by go_num, ⟨by rw [HLS.out, if_neg (by rw [HNG.out]; simp)]; exact K3.out.2.1, by rw [HIS.out, if_neg (by rw [HNG.out]; simp)]; exact K3.out.1, K3.out.2.2.2⟩⟩, by simp [intOf]; omega⟩
          | true =>
            rw [hst] at o0
            have HG2 : Kp (goes TD q d i = decide (T.life ≤ IntKind.i64.wrap (now - o.told))) := ⟨by rw [HG.out, hst]; rfl⟩
            clear hst
            go_wp2_with (refine BigFrame.wpList_want ?hw (fun K hK => wp_load_row 101 (.tmp 11) rfl Mb rfl 101 (owc o).toArray (0, 0) _ K3.out.2.2.1 Try.underlying101 rfl (info101s _) (hK _ _ ?_)); case hw => rfl)
            refine (expq_any now T.life i o t Bn Bt w3 K3.out.2.2.2 (by rw [← HTW2.out]; exact K3.out.1.blk.cell 2)).mono ?_
            rintro r w5 ⟨rfl, hb⟩
            have K5 : Kp (Turn t TI.obj w w5 ∧ w5.ownsRow w.heap.size 3 1 u8 l.length (nv l) ∧ Blk w5 Mb o.obj ∧ EX now t Bn Bt w5) := ⟨K3.out.1.more hb, ownsRow_below K3.out.2.1 hb, K3.out.2.2.1.keep hb, K3.out.2.2.2.keep hb⟩
            clear hb K3 o0 o1 o3 o4 o5
            cases hn : decide (T.life ≤ IntKind.i64.wrap (now - o.told)) with
            | false =>
              have HNG : Kp (goes TD q d i = false) := ⟨by rw [HG2.out, hn]⟩
              clear hn
              go_wp2_with fail
              exact ⟨⟨i + 1, by omega, by go_num, ⟨by rw [HLS.out, if_neg (by rw [HNG.out]; simp)]; exact K5.out.2.1, by rw [HIS.out, if_neg (by rw [HNG.out]; simp)]; exact K5.out.1, K5.out.2.2.2⟩⟩, by simp [intOf]; omega⟩
            | true =>
              have HNG : Kp (goes TD q d i = true) := ⟨by rw [HG2.out, hn]⟩
              clear hn
              go_wp2_with fail
              refine wp_region_held_drew (S := fun w' => Blk w' Mb o.obj) (by kernel_rfl) (K5.out.2.2.1.draw) (fun hH => ?_)
              refine wpAnyH_take (i := 0) (oi := { dst := some 49, op := Go.Op.move (Go.Operand.tmp 0), type := 25, pos := "offer.go:95", after := #[], guard := none }) (v := .pointer (some ⟨t, 0, none⟩)) rfl (by kernel_rfl) (by kernel_rfl) (by kernel_rfl) (fun _ _ _ h => h) (Or.inl ⟨by rfl, fun w hS => by go_simp⟩) hH ?_
              simp only [Act.put, List.setIfInBounds_toArray, List.set_cons_zero, List.set_cons_succ]
              refine wpAnyH_take (i := 1) (oi := { dst := some 50, op := Go.Op.move (Go.Operand.tmp 9), type := 3, pos := "offer.go:95", after := #[], guard := none }) (v := .int .i64 d) rfl (by kernel_rfl) (by kernel_rfl) (by kernel_rfl) (fun _ _ _ h => h) (Or.inl ⟨by rfl, fun w hS => by go_simp⟩) hH ?_
              simp only [Act.put, List.setIfInBounds_toArray, List.set_cons_zero, List.set_cons_succ]
              refine wpAnyH_take (i := 2) (oi := { dst := some 51, op := Go.Op.move (Go.Operand.tmp 10), type := 3, pos := "offer.go:95", after := #[], guard := none }) (v := .int .i64 i) rfl (by kernel_rfl) (by kernel_rfl) (by kernel_rfl) (fun _ _ _ h => h) (Or.inl ⟨by rfl, fun w hS => by go_simp⟩) hH ?_
              simp only [Act.put, List.setIfInBounds_toArray, List.set_cons_zero, List.set_cons_succ]
              refine wpAnyH_take (i := 3) (oi := { dst := some 52, op := Go.Op.move (Go.Operand.tmp 7), type := 2, pos := "offer.go:95", after := #[], guard := none }) (v := .int .i64 U) rfl (by kernel_rfl) (by kernel_rfl) (by kernel_rfl) (fun _ _ _ h => h) (Or.inl ⟨by rfl, fun w hS => by go_simp⟩) hH ?_
              simp only [Act.put, List.setIfInBounds_toArray, List.set_cons_zero, List.set_cons_succ]
              refine wpAnyH_take (i := 4) (oi := { dst := some 53, op := Go.Op.fieldAddr 101 (Go.Operand.tmp 11) 2, type := 0, pos := "offer.go:95", after := #[], guard := none }) (v := .pointer (some ⟨Mb, 2, none⟩)) rfl (by kernel_rfl) (by kernel_rfl) (by kernel_rfl) (fun _ _ _ h => h) (Or.inl ⟨by rfl, fun w hS => by go_simp⟩) hH ?_
              simp only [Act.put, List.setIfInBounds_toArray, List.set_cons_zero, List.set_cons_succ]
              refine wpAnyH_take (i := 5) (oi := { dst := some 54, op := Go.Op.fieldAddr 51 (Go.Operand.tmp 53) 1, type := 0, pos := "offer.go:95", after := #[{ on := 4, ground := Go.Ground.data }], guard := none }) (v := .pointer (some ⟨Mb, 3, none⟩)) rfl (by kernel_rfl) (by kernel_rfl) (by kernel_rfl) (fun _ _ _ h => h) (Or.inl ⟨by rfl, fun w hS => by go_simp⟩) hH ?_
              simp only [Act.put, List.setIfInBounds_toArray, List.set_cons_zero, List.set_cons_succ]
              refine wpAnyH_take (i := 6) (oi := { dst := some 55, op := Go.Op.load 47 (Go.Operand.tmp 54), type := 47, pos := "offer.go:95", after := #[{ on := 5, ground := Go.Ground.data }], guard := none }) (v := keyV o.kn.k) rfl (by kernel_rfl) (by kernel_rfl) (by kernel_rfl) (fun _ _ _ h => h) (Or.inl ⟨by rfl, fun w hS => exec_load_mid (cs := kc o.kn.k) rfl rfl (hS.range (o := 3) rfl) Try.underlying47 rfl (by kernel_rfl)⟩) hH ?_
              simp only [Act.put, List.setIfInBounds_toArray, List.set_cons_zero, List.set_cons_succ]
              refine wpAnyH_take (i := 7) (oi := { dst := some 56, op := Go.Op.build 101 #[(3, Go.Operand.tmp 52), (4, Go.Operand.tmp 55)], type := 101, pos := "offer.go:95", after := #[{ on := 3, ground := Go.Ground.data }, { on := 6, ground := Go.Ground.data }], guard := none }) (v := .agg (owc (gone U o.kn.k)).toArray) rfl (by kernel_rfl) (by kernel_rfl) (by kernel_rfl) (fun _ _ _ h => h) (Or.inl ⟨by rfl, fun w hS => exec_build 101 #[(3, .tmp 52), (4, .tmp 55)] rfl #[(3, .int .i64 U), (4, keyV o.kn.k)] (by simp only [List.map_toArray, List.map_cons, List.map_nil]; rfl) _ (built101 U o.kn.k)⟩) hH ?_
              simp only [Act.put, List.setIfInBounds_toArray, List.set_cons_zero, List.set_cons_succ]
              refine wpAnyH_take (i := 8) (oi := { dst := some 57, op := Go.Op.nilCheck (Go.Operand.tmp 49), type := 0, pos := "offer.go:95", after := #[{ on := 0, ground := Go.Ground.data }], guard := none }) (v := .pointer (some ⟨t, 0, none⟩)) rfl (by kernel_rfl) (by kernel_rfl) (by kernel_rfl) (fun _ _ _ h => h) (Or.inl ⟨by rfl, fun w hS => by go_simp⟩) hH ?_
              simp only [Act.put, List.setIfInBounds_toArray, List.set_cons_zero, List.set_cons_succ]
              refine wpAnyH_take (i := 9) (oi := { dst := some 58, op := Go.Op.fieldAddr 105 (Go.Operand.tmp 57) 2, type := 0, pos := "offer.go:95", after := #[{ on := 8, ground := Go.Ground.data }], guard := none }) (v := .pointer (some ⟨t, 3, none⟩)) rfl (by kernel_rfl) (by kernel_rfl) (by kernel_rfl) (fun _ _ _ h => h) (Or.inl ⟨by rfl, fun w hS => by go_simp⟩) hH ?_
              simp only [Act.put, List.setIfInBounds_toArray, List.set_cons_zero, List.set_cons_succ]
              refine wpAnyH_take (i := 10) (oi := { dst := some 59, op := Go.Op.indexAddr 103 (Go.Operand.tmp 58) (Go.Operand.tmp 50), type := 0, pos := "offer.go:95", after := #[{ on := 9, ground := Go.Ground.data }, { on := 1, ground := Go.Ground.data }], guard := none }) (v := .pointer (some ⟨t, 3 + d * 216, none⟩)) rfl (by kernel_rfl) (by kernel_rfl) (by kernel_rfl) (fun _ _ _ h => h) (Or.inl ⟨by rfl, fun w hS => by go_simp⟩) hH ?_
              simp only [Act.put, List.setIfInBounds_toArray, List.set_cons_zero, List.set_cons_succ]
              refine wpAnyH_take (i := 11) (oi := { dst := some 60, op := Go.Op.indexAddr 102 (Go.Operand.tmp 59) (Go.Operand.tmp 51), type := 0, pos := "offer.go:95", after := #[{ on := 10, ground := Go.Ground.data }, { on := 2, ground := Go.Ground.data }, { on := 0, ground := Go.Ground.phase }, { on := 1, ground := Go.Ground.phase }, { on := 2, ground := Go.Ground.phase }, { on := 3, ground := Go.Ground.phase }, { on := 4, ground := Go.Ground.phase }, { on := 5, ground := Go.Ground.phase }, { on := 6, ground := Go.Ground.phase }, { on := 7, ground := Go.Ground.phase }], guard := none }) (v := .pointer (some ⟨t, 3 + d * 216 + i * 27, none⟩)) rfl (by kernel_rfl) (by kernel_rfl) (by kernel_rfl) (fun _ _ _ h => h) (Or.inl ⟨by rfl, fun w hS => by go_simp⟩) hH ?_
              simp only [Act.put, List.setIfInBounds_toArray, List.set_cons_zero, List.set_cons_succ]
              refine wpAnyH_ready (rs := [12]) (by kernel_rfl) (by simp) ?_
              refine AllReadyH.cons (o := { dst := none, op := Go.Op.store 101 (Go.Operand.tmp 60) (Go.Operand.tmp 56), type := 0, pos := "offer.go:95", after := #[{ on := 11, ground := Go.Ground.data }, { on := 7, ground := Go.Ground.data }, { on := 0, ground := Go.Ground.phase }, { on := 1, ground := Go.Ground.phase }, { on := 2, ground := Go.Ground.phase }, { on := 3, ground := Go.Ground.phase }, { on := 4, ground := Go.Ground.phase }, { on := 5, ground := Go.Ground.phase }, { on := 6, ground := Go.Ground.phase }, { on := 7, ground := Go.Ground.phase }], guard := none }) rfl (fun K hK => ?_) AllReadyH.nil
              refine wp_store_mid 101 (.tmp 60) (.tmp 56) rfl t (3 + d * 216 + i * 27) (owc (gone U o.kn.k)).toArray rfl rfl (Blk.there K5.out.1.blk.draw (by rw [tc_len]; have := HD8.out; have := HI8.out; show 3 + d * 216 + i * 27 + 27 ≤ 1739; omega)) (info101s _) (all_oneCell_toArray (owc_one _)) ?_
              have K6 : Kp (Turn t (TI.putO (d * 8 + i) (gone U o.kn.k)).obj w (w5.drew.setCells t (3 + d * 216 + i * 27) (owc (gone U o.kn.k)).toArray.toList) ∧ (w5.drew.setCells t (3 + d * 216 + i * 27) (owc (gone U o.kn.k)).toArray.toList).ownsRow w.heap.size 3 1 u8 l.length (nv l) ∧ Blk (w5.drew.setCells t (3 + d * 216 + i * 27) (owc (gone U o.kn.k)).toArray.toList) Mb o.obj ∧ EX now t Bn Bt (w5.drew.setCells t (3 + d * 216 + i * 27) (owc (gone U o.kn.k)).toArray.toList)) := ⟨K5.out.1.drew.putO HD8.out HI8.out _, row_turn (w := w5.drew) K5.out.2.1 K5.out.1.blk.draw (by decide) ((Turn.same K5.out.1.blk.draw).putO HD8.out HI8.out (gone U o.kn.k)), Blk.otherCells HMt.out _ _ _ K5.out.2.2.1.draw, EX.otherCells HBt.out _ _ _ K5.out.2.2.2.draw⟩
              refine hK.out _ _ (K6.out.2.2.1) (fun hHn => ?_)
              clear hK K hH
              have hH := hHn
              clear hHn
              try simp only [Act.put, List.setIfInBounds_toArray, List.set_cons_zero, List.set_cons_succ]
              clear hH
              refine wpAnyH_done (by kernel_rfl) ?_ _
              clear K5
              revert K6
              generalize World.setCells _ _ _ _ = w6
              intro K6
              obtain ⟨TO, hTO⟩ : ∃ TO, TO = TI.putO (d * 8 + i) (gone U o.kn.k) := ⟨_, rfl⟩
              have HTO : Kp (dropI TD U q d (i + 1) = TO ∧ TO.way d = TD.way d) := ⟨by rw [HIS.out, if_pos HNG.out, hTO], by rw [hTO]; exact HTW.out⟩
              rw [← hTO] at K6
              clear hTO
              have c0 : w6.cell? ⟨t, 1731 + d, none⟩ = some (.int .i64 (TD.way d)) := (K6.out.1.blk.cell _).trans (by rw [List.getElem?_toArray, tc_way TO HD8.out, HTO.out.2])
              by_cases hwi : TD.way d = i
              · have HLX : Kp (lsI TD q d L0 (i + 1) = l ++ [d]) := ⟨by rw [HLS.out, if_pos ⟨HNG.out, hwi⟩]⟩
                rw [hwi] at c0
                clear hwi
                go_wp2_with (at_builtin; refine wpList_append_own _ rfl _ _ 58 rfl w.heap.size 3 i0 (.int .i64 0) 1 8 Try.underlying58 hi hz0 hz1 hz2 rfl (by decide) _ l.length (nv l) rfl (K6.out.2.1.alloc _) ⟨_, 0, none⟩ 1 1 [.int .i64 d] rfl rfl ?c1 ?c2 ?c3 ?c4 ?c5 ?_)
                case c1 =>
                  intro j u hj
                  match j, hj with
                  | 0, hj => simp at hj; subst hj; simp [Addr.add]
                case c2 =>
                  intro u hu
                  simp at hu
                  subst hu
                  rfl
                case c3 => have := HLL.out; unfold maxLen; omega
                case c4 => have := HLL.out; omega
                case c5 => have := K6.out.1.size; simp; omega
                · intro v' w9 hown' hgrow _
                  have hbl : Below w.heap.size w6 w9 := (more (Below.refl _ _) _ |>.mono K6.out.1.size).trans (below_row_grown (Below.refl _ _) (by have := K6.out.1.size; simp; omega) (K6.out.2.1.alloc _) hgrow)
                  have K9 : Kp (w9.ownsRow w.heap.size 3 1 v' (l ++ [d]).length (nv (l ++ [d])) ∧ Turn t TO.obj w w9 ∧ EX now t Bn Bt w9) := ⟨by simpa [nv] using hown', K6.out.1.upto hbl (Nat.le_refl _) HTL.out.1, K6.out.2.2.2.upto hbl HTL.out.2⟩
                  clear hown' hgrow hbl K6 c0
                  go_wp2_with fail
                  exact ⟨⟨i + 1, by omega, by go_num, ⟨by rw [HLX.out]; exact K9.out.1, by rw [HTO.out.1]; exact K9.out.2.1, K9.out.2.2⟩⟩, by simp [intOf]; omega⟩
              · have HLX : Kp (lsI TD q d L0 (i + 1) = l) := ⟨by rw [HLS.out, if_neg (fun h => hwi h.2)]⟩
                have hwi' : ((i : Int) == TD.way d) = false := by simp; omega
                clear hwi
                go_wp2_with fail
                exact ⟨⟨i + 1, by omega, by go_num, ⟨by rw [HLX.out]; exact K6.out.2.1, by rw [HTO.out.1]; exact K6.out.1, K6.out.2.2.2⟩⟩, by simp [intOf]; omega⟩
        · have hi8e : i = 8 := by omega
          obtain ⟨TI, hTI⟩ : ∃ TI, TI = dropI TD U q d i := ⟨_, rfl⟩
          obtain ⟨l, hl⟩ : ∃ l, l = lsI TD q d L0 i := ⟨_, rfl⟩
          have HDX : Kp (dropD T U q (d + 1) = (TI.putW d (turnUp TI d 8), l)) := ⟨by rw [HDD.out, hTI, hl, hi8e]⟩
          have HTW : Kp (0 ≤ TI.way d ∧ TI.way d < 8) := ⟨by rw [hTI, (dropI_way TD U q d i).1]; exact HWD.out d HD8.out⟩
          rw [← hTI, ← hl] at K2
          have hnlt : ¬ (i : Int) < 8 := by omega
          clear hTI hl hi8e hlt2
          go_wp2_with fail
          refine (turn_any TI t d _ K2.out.2.1.blk HD8.out HTW.out).mono ?_
          rintro r w9 ⟨rfl, hT⟩
          have K9 : Kp (w9.ownsRow w.heap.size 3 1 u8 l.length (nv l) ∧ Turn t (TI.putW d (turnUp TI d 8)).obj w w9 ∧ EX now t Bn Bt w9) := ⟨row_turn K2.out.1 K2.out.2.1.blk (by decide) hT, K2.out.2.1.trans hT, K2.out.2.2.turn hT HBt.out⟩
          clear hT K2
          generalize turnUp TI d 8 = x9 at *
          go_wp2_with fail
          exact ⟨⟨d + 1, by omega, by go_num, ⟨by rw [HDX.out]; exact K9.out.1, by rw [HDX.out]; exact K9.out.2.1, K9.out.2.2⟩⟩, by simp [intOf]; omega⟩
    · have hd : d = 8 := by omega
      have HDF : Kp (F = dropD T U q d) := ⟨by rw [HF.out, hd]⟩
      rw [← HDF.out] at K1
      have hnlt : ¬ (d : Int) < 8 := by omega
      clear hd hlt
      go_wp2_with fail
      go_ret
      exact HP.out _ _ ⟨_, rfl, K1.out.1, K1.out.2.1⟩
theorem expire_nil (now : Int) (w : World) : Calls Try.prog 20 #[.pointer none, .int .i64 now] w fun r w' => r = .returned (.slice none 0 0) ∧ Below w.heap.size w w' := by
  have HB : Kp (∀ o o2, Below w.heap.size w ((w.alloc o).alloc o2)) := ⟨fun o o2 => more (more (Below.refl _ _) _) _⟩
  go_enter Try.func20, Try.ntmps20
  go_wp2_with fail
  refine (drop_nil _ now _).mono ?_
  rintro r w1 ⟨rfl, rfl⟩
  go_wp2_with fail
  go_ret
  exact ⟨rfl, HB.out _ _⟩
theorem expire_time (now : Int) (t : Nat) (w : World) (ht : tmB now = false) : Calls Try.prog 20 #[.pointer (some ⟨t, 0, none⟩), .int .i64 now] w fun r w' => r = .returned (.slice none 0 0) ∧ Below w.heap.size w w' := by
  have HB : Kp (∀ o o2, Below w.heap.size w ((w.alloc o).alloc o2)) := ⟨fun o o2 => more (more (Below.refl _ _) _) _⟩
  go_enter Try.func20, Try.ntmps20
  go_wp2_with fail
  refine (drop_time _ now t _ ht).mono ?_
  rintro r w1 ⟨rfl, rfl⟩
  go_wp2_with fail
  go_ret
  exact ⟨rfl, HB.out _ _⟩
theorem expire_any (T : TB) (now : Int) (t : Nat) (w : World) (h : Blk w t T.obj) (ht : tmB now = true) (hh : 0 ≤ T.hold ∧ T.hold ≤ 1048576) (hw : T.Ways) :
    Calls Try.prog 20 #[.pointer (some ⟨t, 0, none⟩), .int .i64 now] w (DropPost T now (isX now T.life) t w) := by
  have HD := fun W h1 h2 => drop_expire T now t (w.heap.size + 1) w.heap.size W h1 h2 ht hh hw
  obtain ⟨W2, hW2⟩ : ∃ W2, W2 = (w.alloc (.cells #[.pointer (some ⟨t, 0, none⟩)] 25)).alloc (.cells #[.int .i64 now] 2) := ⟨_, rfl⟩
  have HB : Kp (Blk W2 t T.obj ∧ EX now t (w.heap.size + 1) w.heap.size W2 ∧ Below w.heap.size w W2) := ⟨by rw [hW2]; exact ⟨(h.old _).old _, ⟨Blk.newAt _ (by simp), (Blk.new _ _).old _⟩, more (more (Below.refl _ _) _) _⟩⟩
  have HWE := Kp.mk hW2
  clear h ht hh hw hW2
  go_enter Try.func20, Try.ntmps20
  go_wp2_with fail
  rw [← HWE.out]
  refine (HD _ HB.out.1 HB.out.2.1).mono ?_
  rintro r w1 ⟨v, rfl, ho, hT⟩
  have K := Kp.mk (And.intro (ownsRow_base (base' := w.heap.size) ho HB.out.2.2.size) (Turn.ahead HB.out.2.2 hT))
  clear ho hT HD
  go_wp2_with fail
  go_ret
  exact ⟨v, rfl, K.out.1, K.out.2⟩
end Go.Proofs.Ytfpmmbbbndobiaa
