/-
  The document's Due: all, and some.
-/
import Derived.Test.YtfnjfoconklhiaaStP
namespace Go.Proofs.Ytfnjfoconklhiaa
open Go.RowKit

theorem those_lt {p : PS} {q : NW → Bool} {d : Nat} : d ∉ those p q d := fun h => by have := (those_mem.1 h).1; omega
theorem told_rcells (q : PS) (now : Int) : ((prc q).toArray.setIfInBounds 2 (.bool true)).setIfInBounds 3 (.int .i64 now) = (prc { q with ever := true, told := now }).toArray := rfl
set_option maxRecDepth 100000 in
set_option maxHeartbeats 3200000 in
theorem rdue_full0 (p : PS) (now : Int) (w : World) (hp : p.Ok) (ht : tmB now = true) (hf : p.full now = true) (hev : p.ever = false) : Calls Try.prog 15 #[.agg (prc p).toArray, .int .i64 now] w (RDuePost p now w) := by
  have HPX : Kp (∀ w5, Below w.heap.size w w5 → RDuePost p now w (.returned (.tuple #[.bool true, .slice none 0 0, .agg (prc { (p.tell (List.range 8)) with ever := true, told := now }).toArray])) w5) := ⟨fun w5 h5 => ⟨.slice none 0 0, by rw [full_same hp now ht hf, show p.dueF now = true by simp [PS.dueF, ht, hf]], by rw [show p.dueL now = [] by simp [PS.dueL, hf]]; exact World.ownsRow_nil _ _ _ _, h5⟩⟩
  have HS := sub_in ht hp.told
  have HW64 : wrap64 (now - p.told) = now - p.told := by rw [← IntWalk.i64_left]; exact HS
  have hnow : 0 ≤ now ∧ now ≤ 1099511627776 := by simpa [tmB] using ht
  have HEV := Kp.mk hev
  clear hev
  have hC := fun (w : World) => box_row (t := 40) (cs := prc p) (info40s p) w
  obtain ⟨A, hA⟩ : ∃ A, A = w.heap.size := ⟨_, rfl⟩
  obtain ⟨R, hR'⟩ : ∃ R, R = A + 1 := ⟨_, rfl⟩
  have HAR : Kp (A ≠ R) := ⟨by omega⟩
  have HLR : Kp (w.heap.size ≤ R) := ⟨by omega⟩
  obtain ⟨Z, hZ⟩ : ∃ Z, Z = ps00 := ⟨_, rfl⟩
  obtain ⟨W, hW⟩ : ∃ W, W = ((w.alloc (.cells (prc p).toArray 40)).alloc (.cells (prc Z).toArray 40)) := ⟨_, rfl⟩
  have HW : Kp (RD p Z A R w W) := ⟨by
    rw [hW]
    exact ⟨(Blk.newAt _ hA).old _, Blk.newAt _ (by rw [hR', hA]; simp), more (more (Below.refl _ _) _) _, by omega⟩⟩
  have HINF : Kp ((Try.prog.info? 40).map (fun i => (i.zero, i.size)) = some (some (.agg (prc Z).toArray), 60)) := ⟨by rw [hZ]; exact info40z⟩
  have HWE := Kp.mk hW
  have HE := Kp.mk (And.intro hA hR')
  clear hZ hW hA hR'
  clear ht hf hp
  go_enter Try.func15, Try.ntmps15
  go_wp2_with (first
    | (refine wpList_box_eq rfl 40 (.tmp 0) rfl _ rfl _ _ (hC _) ?_)
    | (refine wpList_alloc_row rfl 40 rfl (prc Z).toArray 60 HINF.out ?_; refine wpl_world (· = W) (by show _ = W; rw [HWE.out]) ?_; intro W1 hW1; have hW2 : W1 = W := hW1; subst hW2; have c2 : W1.cell? ⟨w.heap.size, 2, none⟩ = some (.bool false) := by { rw [← HE.out.1]; exact (HW.out.a.cell 2).trans (by rw [← HEV.out]; rfl) }))
  rw [← HE.out.1, ← HE.out.2]
  have K0 := Kp.mk HW.out
  clear HW HS HW64 c2
  go_loopw [8, 9] (fun v ct wr => ∃ d : Nat, d ≤ 8 ∧ ct = .int .i64 d ∧ v = .slice none 0 0 ∧ Kp (RD (p.tell (List.range d)) Z A R w wr)) (fun _ ct _ => 8 - (intOf ct).toNat)
  case atStart => exact ⟨0, by omega, rfl, rfl, by rw [show List.range 0 = [] from rfl, PS.tell_nil]; exact K0⟩
  case round =>
    obtain ⟨d, hd8, rfl, rfl, D0⟩ := hrel
    by_cases hlt : d < 8
    · have HD8 := Kp.mk hlt
      have hlt' : (d : Int) < 8 := by omega
      have HTP : Kp ((p.tell (List.range d)).all d = p.all d ∧ (p.tell (List.range d)).put d (p.all d).tell = p.tell (List.range (d + 1))) := ⟨by
        rw [List.range_succ]
        exact tell_put (by simp)⟩
      have HRA : Kp (wr.rangeAt A (4 + d * 7) (nrc (p.all d))) := ⟨by rw [← HTP.out.1]; exact rnw_range D0.out.a hlt⟩
      obtain ⟨n, hn⟩ : ∃ n, n = p.all d := ⟨_, rfl⟩
      rw [← hn] at HRA
      clear hn
      go_upto_region 9 with (first
          | (refine wpList_load_mid rfl 37 (.tmp 37) rfl A (4 + d * 7) rfl (nrc n) _ HRA.out Try.underlying37 rfl (by kernel_rfl) ?_)
          | (refine wpList_store_row rfl 37 (.tmp 10) (.tmp 38) rfl wr.heap.size (nrc n).toArray rfl rfl 37 _ (Blk.newAt _ rfl) (info37s n) rfl (all_oneCell_toArray (nrc_one n)) ?_
             rw [World.setRow_alloc_new]
             refine wpl_world (fun W => RD (p.tell (List.range d)) Z A R w W ∧ Blk W wr.heap.size (.cells (nrc n).toArray 37)) ⟨D0.out.keep (more (Below.refl _ _) _), Blk.new _ _⟩ ?_
             intro W2 hW2
             have H2 := Kp.mk hW2
             have p4 : W2.cell? ⟨A, 4 + d * 7 + 4, none⟩ = some (.bool ((p.tell (List.range d)).all d).waits) := (hW2.1.a.cell _).trans (by rw [List.getElem?_toArray, prc_at _ HD8.out (by omega)]; rfl)
             have p5 : W2.cell? ⟨A, 4 + d * 7 + 5, none⟩ = some (.bool ((p.tell (List.range d)).all d).urgent) := (hW2.1.a.cell _).trans (by rw [List.getElem?_toArray, prc_at _ HD8.out (by omega)]; rfl)
             have f4 := hW2.1.a.frozen (4 + d * 7 + 4)
             have f5 := hW2.1.a.frozen (4 + d * 7 + 5)
             clear hW2))
      go_wp2_with fail
      exact ⟨⟨d + 1, by omega, by go_num, rfl, by rw [← HTP.out.2, ← HTP.out.1]; exact ⟨H2.out.1.tell HD8.out⟩⟩, by simp [intOf]; omega⟩
    · obtain rfl : d = 8 := by omega
      have p2 : wr.cell? ⟨A, 2, none⟩ = some (.bool (p.tell (List.range 8)).ever) := D0.out.a.cell 2
      have p3 : wr.cell? ⟨A, 3, none⟩ = some (.int .i64 (p.tell (List.range 8)).told) := D0.out.a.cell 3
      have f2 := D0.out.a.frozen 2
      have f3 := D0.out.a.frozen 3
      go_wp2_with fail
      obtain ⟨q, hq⟩ : ∃ q : PS, q = { (p.tell (List.range 8)) with ever := true, told := now } := ⟨_, rfl⟩
      have H3 : Kp (RD q Z A R w ((wr.setCell ⟨A, 2, none⟩ (.bool true)).setCell ⟨A, 3, none⟩ (.int .i64 now))) := ⟨D0.out.turn (by rw [hq]; exact (((Turn.same D0.out.a).set 2 (.bool true)).set 3 (.int .i64 now)).as rfl)⟩
      rw [← hq] at HPX
      clear hq p2 p3 f2 f3 D0
      revert H3
      generalize World.setCell _ _ _ = W3
      intro H3
      have HRG : Kp (Blk W3 A q.robj ∧ Blk W3 R (.cells (prc Z).toArray 40) ∧ Below w.heap.size w W3) := ⟨H3.out.a, H3.out.r, H3.out.hb⟩
      refine wp_region_held_drew (S := fun w' => Blk w' A (q).robj ∧ ∃ qz : PS, Blk w' R (.cells (prc qz).toArray 40)) (by kernel_rfl) (⟨HRG.out.1.draw, _, HRG.out.2.1.draw⟩) (fun hH => ?_)
      refine wpAnyH_take (i := 0) (oi := { dst := some 76, op := Go.Op.move (Go.Operand.tmp 7), type := 4, pos := "ref.go:79", after := #[], guard := none }) (v := .bool true) rfl (by kernel_rfl) (by kernel_rfl) (by kernel_rfl) (fun _ _ _ h => h) (Or.inl ⟨by rfl, fun w hS => by go_simp⟩) hH ?_
      simp only [Act.put, List.setIfInBounds_toArray, List.set_cons_zero, List.set_cons_succ]
      refine wpAnyH_take (i := 1) (oi := { dst := some 77, op := Go.Op.move (Go.Operand.tmp 8), type := 48, pos := "ref.go:79", after := #[{ on := 3, ground := Go.Ground.gcOnly Go.Departure.lateStores }], guard := none }) (v := .slice none 0 0) rfl (by kernel_rfl) (by kernel_rfl) (by kernel_rfl) (fun _ _ _ h => h) (Or.inl ⟨by rfl, fun w hS => by go_simp⟩) hH ?_
      simp only [Act.put, List.setIfInBounds_toArray, List.set_cons_zero, List.set_cons_succ]
      refine wpAnyH_take (i := 2) (oi := { dst := some 78, op := Go.Op.load 40 (Go.Operand.tmp 2), type := 40, pos := "ref.go:79", after := #[{ on := 4, ground := Go.Ground.gcOnly Go.Departure.lateStores }], guard := none }) (v := .agg (prc q).toArray) rfl (by kernel_rfl) (by kernel_rfl) (by kernel_rfl) (fun _ _ _ h => h) (Or.inl ⟨by rfl, fun w hS => exec_load_mid (cs := prc q) rfl rfl (hS.1.range (o := 0) rfl) Try.underlying40 rfl (by kernel_rfl)⟩) hH ?_
      simp only [Act.put, List.setIfInBounds_toArray, List.set_cons_zero, List.set_cons_succ]
      refine wpAnyH_take (i := 3) (oi := { dst := some 4, op := Go.Op.assign (Go.Operand.tmp 76), type := 4, pos := "ref.go:79", after := #[{ on := 0, ground := Go.Ground.data }, { on := 0, ground := Go.Ground.phase }, { on := 1, ground := Go.Ground.textOnly Go.Departure.lateStores }, { on := 2, ground := Go.Ground.textOnly Go.Departure.lateStores }], guard := none }) (v := .bool true) rfl (by kernel_rfl) (by kernel_rfl) (by kernel_rfl) (fun _ _ _ h => h) (Or.inl ⟨by rfl, fun w hS => by go_simp⟩) hH ?_
      simp only [Act.put, List.setIfInBounds_toArray, List.set_cons_zero, List.set_cons_succ]
      refine wpAnyH_take (i := 4) (oi := { dst := some 5, op := Go.Op.assign (Go.Operand.tmp 77), type := 48, pos := "ref.go:79", after := #[{ on := 1, ground := Go.Ground.data }, { on := 3, ground := Go.Ground.chain }, { on := 0, ground := Go.Ground.phase }, { on := 1, ground := Go.Ground.phase }, { on := 2, ground := Go.Ground.textOnly Go.Departure.lateStores }, { on := 3, ground := Go.Ground.phase }], guard := none }) (v := .slice none 0 0) rfl (by kernel_rfl) (by kernel_rfl) (by kernel_rfl) (fun _ _ _ h => h) (Or.inl ⟨by rfl, fun w hS => by go_simp⟩) hH ?_
      simp only [Act.put, List.setIfInBounds_toArray, List.set_cons_zero, List.set_cons_succ]
      refine wpAnyH_ready (rs := [5]) (by kernel_rfl) (by simp) ?_
      refine AllReadyH.cons (o := { dst := none, op := Go.Op.store 40 (Go.Operand.tmp 6) (Go.Operand.tmp 78), type := 0, pos := "ref.go:79", after := #[{ on := 2, ground := Go.Ground.data }, { on := 4, ground := Go.Ground.chain }, { on := 0, ground := Go.Ground.phase }, { on := 1, ground := Go.Ground.phase }, { on := 2, ground := Go.Ground.phase }, { on := 3, ground := Go.Ground.phase }, { on := 4, ground := Go.Ground.phase }], guard := none }) rfl (fun K hK => ?_) AllReadyH.nil
      obtain ⟨hHA, qz, hHR⟩ := hH
      refine wp_store_row 40 (.tmp 6) (.tmp 78) rfl R (prc q).toArray rfl rfl 40 _ hHR (info40s _) rfl (all_oneCell_toArray (prc_one _)) ?_
      have hH := hHA
      have HFI : Kp (Blk ((W3.drew).setRow R (prc q).toArray) R (.cells (prc q).toArray 40) ∧ Below w.heap.size w ((W3.drew).setRow R (prc q).toArray)) := ⟨Blk.setRow hHR _, Below.row (Below.drew HRG.out.2.2) HLR.out _⟩
      refine hK.out _ _ (⟨(setRow_other _ _ _ _ (fun e => HAR.out e)).trans hHA, _, HFI.out.1⟩) (fun hHn => ?_)
      clear hK K hH
      have hH := hHn
      clear hHn
      try simp only [Act.put, List.setIfInBounds_toArray, List.set_cons_zero, List.set_cons_succ]
      clear hH
      refine wpAnyH_done (by kernel_rfl) ?_ _
      clear HRG H3
      revert HFI
      generalize World.setRow _ _ _ = w5
      intro HFI
      go_wp2_with fail
      exact bodyPost_ret (v := .tuple #[.bool true, .slice none 0 0, .agg (prc q).toArray]) (ret15 rfl rfl rfl HFI.out.1) rfl (HPX.out _ HFI.out.2)
set_option maxRecDepth 100000 in
set_option maxHeartbeats 3200000 in
theorem rdue_full1 (p : PS) (now : Int) (w : World) (hp : p.Ok) (ht : tmB now = true) (hf : p.full now = true) (hev : p.ever = true) (hle : p.period ≤ now - p.told) : Calls Try.prog 15 #[.agg (prc p).toArray, .int .i64 now] w (RDuePost p now w) := by
  have HPX : Kp (∀ w5, Below w.heap.size w w5 → RDuePost p now w (.returned (.tuple #[.bool true, .slice none 0 0, .agg (prc { (p.tell (List.range 8)) with ever := true, told := now }).toArray])) w5) := ⟨fun w5 h5 => ⟨.slice none 0 0, by rw [full_same hp now ht hf, show p.dueF now = true by simp [PS.dueF, ht, hf]], by rw [show p.dueL now = [] by simp [PS.dueL, hf]]; exact World.ownsRow_nil _ _ _ _, h5⟩⟩
  have HS := sub_in ht hp.told
  have HW64 : wrap64 (now - p.told) = now - p.told := by rw [← IntWalk.i64_left]; exact HS
  have hnow : 0 ≤ now ∧ now ≤ 1099511627776 := by simpa [tmB] using ht
  have HEV := Kp.mk hev
  clear hev
  have hC := fun (w : World) => box_row (t := 40) (cs := prc p) (info40s p) w
  obtain ⟨A, hA⟩ : ∃ A, A = w.heap.size := ⟨_, rfl⟩
  obtain ⟨R, hR'⟩ : ∃ R, R = A + 1 := ⟨_, rfl⟩
  have HAR : Kp (A ≠ R) := ⟨by omega⟩
  have HLR : Kp (w.heap.size ≤ R) := ⟨by omega⟩
  obtain ⟨Z, hZ⟩ : ∃ Z, Z = ps00 := ⟨_, rfl⟩
  obtain ⟨W, hW⟩ : ∃ W, W = ((w.alloc (.cells (prc p).toArray 40)).alloc (.cells (prc Z).toArray 40)) := ⟨_, rfl⟩
  have HW : Kp (RD p Z A R w W) := ⟨by
    rw [hW]
    exact ⟨(Blk.newAt _ hA).old _, Blk.newAt _ (by rw [hR', hA]; simp), more (more (Below.refl _ _) _) _, by omega⟩⟩
  have HINF : Kp ((Try.prog.info? 40).map (fun i => (i.zero, i.size)) = some (some (.agg (prc Z).toArray), 60)) := ⟨by rw [hZ]; exact info40z⟩
  have HWE := Kp.mk hW
  have HE := Kp.mk (And.intro hA hR')
  clear hZ hW hA hR'
  clear ht hf hp
  go_enter Try.func15, Try.ntmps15
  go_wp2_with (first
    | (refine wpList_box_eq rfl 40 (.tmp 0) rfl _ rfl _ _ (hC _) ?_)
    | (refine wpList_alloc_row rfl 40 rfl (prc Z).toArray 60 HINF.out ?_; refine wpl_world (· = W) (by show _ = W; rw [HWE.out]) ?_; intro W1 hW1; have hW2 : W1 = W := hW1; subst hW2; have c2 : W1.cell? ⟨w.heap.size, 2, none⟩ = some (.bool true) := by { rw [← HE.out.1]; exact (HW.out.a.cell 2).trans (by rw [← HEV.out]; rfl) }; have c3 : W1.cell? ⟨w.heap.size, 3, none⟩ = some (.int .i64 p.told) := by { rw [← HE.out.1]; exact HW.out.a.cell 3 }; have c0 : W1.cell? ⟨w.heap.size, 0, none⟩ = some (.int .i64 p.period) := by { rw [← HE.out.1]; exact HW.out.a.cell 0 }))
  rw [← HE.out.1, ← HE.out.2]
  have K0 := Kp.mk HW.out
  clear HW HS HW64 c2 c3 c0
  go_loopw [8, 9] (fun v ct wr => ∃ d : Nat, d ≤ 8 ∧ ct = .int .i64 d ∧ v = .slice none 0 0 ∧ Kp (RD (p.tell (List.range d)) Z A R w wr)) (fun _ ct _ => 8 - (intOf ct).toNat)
  case atStart => exact ⟨0, by omega, rfl, rfl, by rw [show List.range 0 = [] from rfl, PS.tell_nil]; exact K0⟩
  case round =>
    obtain ⟨d, hd8, rfl, rfl, D0⟩ := hrel
    by_cases hlt : d < 8
    · have HD8 := Kp.mk hlt
      have hlt' : (d : Int) < 8 := by omega
      have HTP : Kp ((p.tell (List.range d)).all d = p.all d ∧ (p.tell (List.range d)).put d (p.all d).tell = p.tell (List.range (d + 1))) := ⟨by
        rw [List.range_succ]
        exact tell_put (by simp)⟩
      have HRA : Kp (wr.rangeAt A (4 + d * 7) (nrc (p.all d))) := ⟨by rw [← HTP.out.1]; exact rnw_range D0.out.a hlt⟩
      obtain ⟨n, hn⟩ : ∃ n, n = p.all d := ⟨_, rfl⟩
      rw [← hn] at HRA
      clear hn
      go_upto_region 9 with (first
          | (refine wpList_load_mid rfl 37 (.tmp 37) rfl A (4 + d * 7) rfl (nrc n) _ HRA.out Try.underlying37 rfl (by kernel_rfl) ?_)
          | (refine wpList_store_row rfl 37 (.tmp 10) (.tmp 38) rfl wr.heap.size (nrc n).toArray rfl rfl 37 _ (Blk.newAt _ rfl) (info37s n) rfl (all_oneCell_toArray (nrc_one n)) ?_
             rw [World.setRow_alloc_new]
             refine wpl_world (fun W => RD (p.tell (List.range d)) Z A R w W ∧ Blk W wr.heap.size (.cells (nrc n).toArray 37)) ⟨D0.out.keep (more (Below.refl _ _) _), Blk.new _ _⟩ ?_
             intro W2 hW2
             have H2 := Kp.mk hW2
             have p4 : W2.cell? ⟨A, 4 + d * 7 + 4, none⟩ = some (.bool ((p.tell (List.range d)).all d).waits) := (hW2.1.a.cell _).trans (by rw [List.getElem?_toArray, prc_at _ HD8.out (by omega)]; rfl)
             have p5 : W2.cell? ⟨A, 4 + d * 7 + 5, none⟩ = some (.bool ((p.tell (List.range d)).all d).urgent) := (hW2.1.a.cell _).trans (by rw [List.getElem?_toArray, prc_at _ HD8.out (by omega)]; rfl)
             have f4 := hW2.1.a.frozen (4 + d * 7 + 4)
             have f5 := hW2.1.a.frozen (4 + d * 7 + 5)
             clear hW2))
      go_wp2_with fail
      exact ⟨⟨d + 1, by omega, by go_num, rfl, by rw [← HTP.out.2, ← HTP.out.1]; exact ⟨H2.out.1.tell HD8.out⟩⟩, by simp [intOf]; omega⟩
    · obtain rfl : d = 8 := by omega
      have p2 : wr.cell? ⟨A, 2, none⟩ = some (.bool (p.tell (List.range 8)).ever) := D0.out.a.cell 2
      have p3 : wr.cell? ⟨A, 3, none⟩ = some (.int .i64 (p.tell (List.range 8)).told) := D0.out.a.cell 3
      have f2 := D0.out.a.frozen 2
      have f3 := D0.out.a.frozen 3
      go_wp2_with fail
      obtain ⟨q, hq⟩ : ∃ q : PS, q = { (p.tell (List.range 8)) with ever := true, told := now } := ⟨_, rfl⟩
      have H3 : Kp (RD q Z A R w ((wr.setCell ⟨A, 2, none⟩ (.bool true)).setCell ⟨A, 3, none⟩ (.int .i64 now))) := ⟨D0.out.turn (by rw [hq]; exact (((Turn.same D0.out.a).set 2 (.bool true)).set 3 (.int .i64 now)).as rfl)⟩
      rw [← hq] at HPX
      clear hq p2 p3 f2 f3 D0
      revert H3
      generalize World.setCell _ _ _ = W3
      intro H3
      have HRG : Kp (Blk W3 A q.robj ∧ Blk W3 R (.cells (prc Z).toArray 40) ∧ Below w.heap.size w W3) := ⟨H3.out.a, H3.out.r, H3.out.hb⟩
      refine wp_region_held_drew (S := fun w' => Blk w' A (q).robj ∧ ∃ qz : PS, Blk w' R (.cells (prc qz).toArray 40)) (by kernel_rfl) (⟨HRG.out.1.draw, _, HRG.out.2.1.draw⟩) (fun hH => ?_)
      refine wpAnyH_take (i := 0) (oi := { dst := some 76, op := Go.Op.move (Go.Operand.tmp 7), type := 4, pos := "ref.go:79", after := #[], guard := none }) (v := .bool true) rfl (by kernel_rfl) (by kernel_rfl) (by kernel_rfl) (fun _ _ _ h => h) (Or.inl ⟨by rfl, fun w hS => by go_simp⟩) hH ?_
      simp only [Act.put, List.setIfInBounds_toArray, List.set_cons_zero, List.set_cons_succ]
      refine wpAnyH_take (i := 1) (oi := { dst := some 77, op := Go.Op.move (Go.Operand.tmp 8), type := 48, pos := "ref.go:79", after := #[{ on := 3, ground := Go.Ground.gcOnly Go.Departure.lateStores }], guard := none }) (v := .slice none 0 0) rfl (by kernel_rfl) (by kernel_rfl) (by kernel_rfl) (fun _ _ _ h => h) (Or.inl ⟨by rfl, fun w hS => by go_simp⟩) hH ?_
      simp only [Act.put, List.setIfInBounds_toArray, List.set_cons_zero, List.set_cons_succ]
      refine wpAnyH_take (i := 2) (oi := { dst := some 78, op := Go.Op.load 40 (Go.Operand.tmp 2), type := 40, pos := "ref.go:79", after := #[{ on := 4, ground := Go.Ground.gcOnly Go.Departure.lateStores }], guard := none }) (v := .agg (prc q).toArray) rfl (by kernel_rfl) (by kernel_rfl) (by kernel_rfl) (fun _ _ _ h => h) (Or.inl ⟨by rfl, fun w hS => exec_load_mid (cs := prc q) rfl rfl (hS.1.range (o := 0) rfl) Try.underlying40 rfl (by kernel_rfl)⟩) hH ?_
      simp only [Act.put, List.setIfInBounds_toArray, List.set_cons_zero, List.set_cons_succ]
      refine wpAnyH_take (i := 3) (oi := { dst := some 4, op := Go.Op.assign (Go.Operand.tmp 76), type := 4, pos := "ref.go:79", after := #[{ on := 0, ground := Go.Ground.data }, { on := 0, ground := Go.Ground.phase }, { on := 1, ground := Go.Ground.textOnly Go.Departure.lateStores }, { on := 2, ground := Go.Ground.textOnly Go.Departure.lateStores }], guard := none }) (v := .bool true) rfl (by kernel_rfl) (by kernel_rfl) (by kernel_rfl) (fun _ _ _ h => h) (Or.inl ⟨by rfl, fun w hS => by go_simp⟩) hH ?_
      simp only [Act.put, List.setIfInBounds_toArray, List.set_cons_zero, List.set_cons_succ]
      refine wpAnyH_take (i := 4) (oi := { dst := some 5, op := Go.Op.assign (Go.Operand.tmp 77), type := 48, pos := "ref.go:79", after := #[{ on := 1, ground := Go.Ground.data }, { on := 3, ground := Go.Ground.chain }, { on := 0, ground := Go.Ground.phase }, { on := 1, ground := Go.Ground.phase }, { on := 2, ground := Go.Ground.textOnly Go.Departure.lateStores }, { on := 3, ground := Go.Ground.phase }], guard := none }) (v := .slice none 0 0) rfl (by kernel_rfl) (by kernel_rfl) (by kernel_rfl) (fun _ _ _ h => h) (Or.inl ⟨by rfl, fun w hS => by go_simp⟩) hH ?_
      simp only [Act.put, List.setIfInBounds_toArray, List.set_cons_zero, List.set_cons_succ]
      refine wpAnyH_ready (rs := [5]) (by kernel_rfl) (by simp) ?_
      refine AllReadyH.cons (o := { dst := none, op := Go.Op.store 40 (Go.Operand.tmp 6) (Go.Operand.tmp 78), type := 0, pos := "ref.go:79", after := #[{ on := 2, ground := Go.Ground.data }, { on := 4, ground := Go.Ground.chain }, { on := 0, ground := Go.Ground.phase }, { on := 1, ground := Go.Ground.phase }, { on := 2, ground := Go.Ground.phase }, { on := 3, ground := Go.Ground.phase }, { on := 4, ground := Go.Ground.phase }], guard := none }) rfl (fun K hK => ?_) AllReadyH.nil
      obtain ⟨hHA, qz, hHR⟩ := hH
      refine wp_store_row 40 (.tmp 6) (.tmp 78) rfl R (prc q).toArray rfl rfl 40 _ hHR (info40s _) rfl (all_oneCell_toArray (prc_one _)) ?_
      have hH := hHA
      have HFI : Kp (Blk ((W3.drew).setRow R (prc q).toArray) R (.cells (prc q).toArray 40) ∧ Below w.heap.size w ((W3.drew).setRow R (prc q).toArray)) := ⟨Blk.setRow hHR _, Below.row (Below.drew HRG.out.2.2) HLR.out _⟩
      refine hK.out _ _ (⟨(setRow_other _ _ _ _ (fun e => HAR.out e)).trans hHA, _, HFI.out.1⟩) (fun hHn => ?_)
      clear hK K hH
      have hH := hHn
      clear hHn
      try simp only [Act.put, List.setIfInBounds_toArray, List.set_cons_zero, List.set_cons_succ]
      clear hH
      refine wpAnyH_done (by kernel_rfl) ?_ _
      clear HRG H3
      revert HFI
      generalize World.setRow _ _ _ = w5
      intro HFI
      go_wp2_with fail
      exact bodyPost_ret (v := .tuple #[.bool true, .slice none 0 0, .agg (prc q).toArray]) (ret15 rfl rfl rfl HFI.out.1) rfl (HPX.out _ HFI.out.2)
end Go.Proofs.Ytfnjfoconklhiaa
