/-
  The document's Due.
-/
import Derived.Test.YtfnjfoconklhiaaStN
namespace Go.Proofs.Ytfnjfoconklhiaa
open Go.RowKit

theorem ret15 {tmps : Array Value} {w : World} {q : PS} {x : Bool} {v : Value} {g : Nat} (h4 : tmps.getD 4 undef = .bool x) (h5 : tmps.getD 5 undef = v) (h6 : tmps.getD 6 undef = .pointer (some ⟨g, 0, none⟩)) (hg : Blk w g q.robj) : (results Try.f15 tmps).run Try.prog w = .ok (.tuple #[.bool x, v, .agg (prc q).toArray]) w := by
  have h4' : tmps[4]?.getD undef = .bool x := by simpa using h4
  have h5' : tmps[5]?.getD undef = v := by simpa using h5
  have h6' : tmps[6]?.getD undef = .pointer (some ⟨g, 0, none⟩) := by simpa using h6
  have hl := run_loadVar_row (P := Try.prog) w g 40 40 (prc q).toArray (0, 0) _ hg Try.underlying40 rfl (info40s q)
  simp [results, Try.results15, h4', h5', h6', asAddr, hl]
theorem prc_congr {p q : PS} (h1 : p.period = q.period) (h2 : p.settle = q.settle) (h3 : p.ever = q.ever) (h4 : p.told = q.told) (h : ∀ i, i < 8 → p.all i = q.all i) : prc p = prc q := by
  unfold prc
  rw [h1, h2, h3, h4, h 0 (by omega), h 1 (by omega), h 2 (by omega), h 3 (by omega), h 4 (by omega), h 5 (by omega), h 6 (by omega), h 7 (by omega)]
theorem NW.tell_same {n : NW} (h1 : n.waits = false) (h2 : n.urgent = false) : n.tell = n := by
  cases n
  simp only at h1 h2
  subst h1 h2
  rfl
theorem full_same {p : PS} (hp : p.Ok) (now : Int) (ht : tmB now = true) (hf : p.full now = true) : prc { (p.tell (List.range 8)) with ever := true, told := now } = prc (p.due now) := by
  unfold PS.due
  rw [if_pos ht, if_pos hf]
  refine prc_congr rfl rfl rfl rfl fun i hi => ?_
  show (if i ∈ List.range 8 then (p.all i).tell else p.all i) = if i ∈ those p (fun n => n.waits) 8 then (p.all i).tell else p.all i
  rw [if_pos (by simpa using hi)]
  by_cases hw : (p.all i).waits = true
  · rw [if_pos (those_mem.2 ⟨hi, hw⟩)]
  · rw [if_neg (fun h => hw (those_mem.1 h).2)]
    have hw' : (p.all i).waits = false := by simpa using hw
    refine NW.tell_same hw' ?_
    cases hu : (p.all i).urgent
    · rfl
    · exact absurd (hp.urgent i hi hu) hw
/-- One destination is told. -/
theorem tell_put {p : PS} {L : List Nat} {d : Nat} (hd : d ∉ L) : (p.tell L).all d = p.all d ∧ (p.tell L).put d (p.all d).tell = p.tell (L ++ [d]) := by
  refine ⟨by unfold PS.tell; simp [hd], ?_⟩
  unfold PS.tell PS.put
  simp only [PS.mk.injEq, true_and, List.mem_append, List.mem_singleton]
  funext i
  by_cases h1 : i = d
  · subst h1
    simp
  · simp [h1]
theorem rtell_cells (p : PS) {d : Nat} (hd : d < 8) : ((prc p).toArray.setIfInBounds (4 + d * 7 + 4) (.bool false)).setIfInBounds (4 + d * 7 + 5) (.bool false) = (prc (p.put d (p.all d).tell)).toArray := by
  have e1 : (prc p).toArray.setIfInBounds (4 + d * 7 + 4) (.bool false) = (prc (p.put d { p.all d with waits := false })).toArray := by rw [List.setIfInBounds_toArray, prc_set p hd (by omega) (n := { p.all d with waits := false }) rfl]
  rw [e1, List.setIfInBounds_toArray, prc_set _ hd (by omega) (n := (p.all d).tell) (by simp [PS.put, nrc, NW.tell])]
  rw [PS.put_put]
/-- The world of Due: the plan's box, the result's, and all else as it was. -/
structure RD (q : PS) (Z : PS) (A R : Nat) (w w' : World) : Prop where
  a : Blk w' A q.robj
  r : Blk w' R (.cells (prc Z).toArray 40)
  hb : Below w.heap.size w w'
  lt : w.heap.size ≤ A ∧ A < R
theorem RD.keep {q Z : PS} {A R : Nat} {w w' w2 : World} (h : RD q Z A R w w') (hb : Below w'.heap.size w' w2) : RD q Z A R w w2 := ⟨h.a.keep hb, h.r.keep hb, h.hb.trans (hb.mono h.hb.size), h.lt⟩
theorem RD.turn {q q' Z : PS} {A R : Nat} {w w' w2 : World} (h : RD q Z A R w w') (k : Turn A q'.robj w' w2) : RD q' Z A R w w2 := ⟨k.blk, k.keep h.r (by have := h.lt; omega), h.hb.trans (k.below h.lt.1 h.hb.size), h.lt⟩
theorem RD.tell {q Z : PS} {A R d : Nat} {w w' : World} (h : RD q Z A R w w') (hd : d < 8) : RD (q.put d (q.all d).tell) Z A R w ((w'.setCell ⟨A, 4 + d * 7 + 4, none⟩ (.bool false)).setCell ⟨A, 4 + d * 7 + 5, none⟩ (.bool false)) := by
  refine h.turn ?_
  have := ((Turn.same h.a).set (4 + d * 7 + 4) (.bool false)).set (4 + d * 7 + 5) (.bool false)
  rw [rtell_cells q hd] at this
  exact this
theorem RD.grown {q Z : PS} {A R B n : Nat} {v : Value} {xs : List Value} {w w' w2 : World} (h : RD q Z A R w w') (ho : w'.ownsRow B 3 1 v n xs) (hB : w.heap.size ≤ B) (hg : w'.grownBy w2 v.ownBlock) : RD q Z A R w w2 :=
  ⟨h.a.grown ho hg (by decide), h.r.grown ho hg (by decide), below_row_grown h.hb h.hb.size (ownsRow_base ho hB) hg, h.lt⟩
def RDuePost (p : PS) (now : Int) (w : World) (r : Ending) (w' : World) : Prop :=
  ∃ v, r = .returned (.tuple #[.bool (p.dueF now), v, .agg (prc (p.due now)).toArray]) ∧ w'.ownsRow w.heap.size 3 1 v (p.dueL now).length (nv (p.dueL now)) ∧ Below w.heap.size w w'
set_option maxRecDepth 100000 in
set_option maxHeartbeats 3200000 in
theorem rdue_no (p : PS) (now : Int) (w : World) (ht : tmB now = false) : Calls Try.prog 15 #[.agg (prc p).toArray, .int .i64 now] w (RDuePost p now w) := by
  have HD : Kp (p.dueF now = false ∧ p.dueL now = [] ∧ p.due now = p) := ⟨by simp [PS.dueF, ht], by simp [PS.dueL, ht], by simp [PS.due, ht]⟩
  have hw : now < 0 ∨ 1099511627776 < now := by
    unfold tmB at ht
    simp at ht
    omega
  have hC := fun (w : World) => box_row (t := 40) (cs := prc p) (info40s p) w
  obtain ⟨A, hA⟩ : ∃ A, A = w.heap.size := ⟨_, rfl⟩
  obtain ⟨R, hR'⟩ : ∃ R, R = A + 1 := ⟨_, rfl⟩
  have HAR : Kp (A ≠ R) := ⟨by omega⟩
  have HLR : Kp (w.heap.size ≤ R) := ⟨by omega⟩
  obtain ⟨Z, hZ⟩ : ∃ Z, Z = ps00 := ⟨_, rfl⟩
  obtain ⟨W, hW⟩ : ∃ W, W = ((w.alloc (.cells (prc p).toArray 40)).alloc (.cells (prc Z).toArray 40)) := ⟨_, rfl⟩
  have HW : Kp (RD p Z A R w W) := ⟨by
    rw [hW]
    exact ⟨(Blk.newAt _ hA).old _, Blk.newAt _ (by rw [hR', hA]; simp), more (more (Below.refl _ _) _) _, by omega⟩⟩
  have HINF : Kp ((Try.prog.info? 40).map (fun i => (i.zero, i.size)) = some (some (.agg (prc Z).toArray), 60)) := ⟨by rw [hZ]; exact info40z⟩
  have HWE := Kp.mk hW
  have HE := Kp.mk (And.intro hA hR')
  clear hZ hW hA hR'
  clear ht
  rcases hw with hw | hw
  all_goals
    go_enter Try.func15, Try.ntmps15
    go_wp2_with (first
      | (refine wpList_box_eq rfl 40 (.tmp 0) rfl _ rfl _ _ (hC _) ?_)
      | (refine wpList_alloc_row rfl 40 rfl (prc Z).toArray 60 HINF.out ?_; refine wpl_world (· = W) (by show _ = W; rw [HWE.out]) ?_; intro W1 hW1; have hW2 : W1 = W := hW1; subst hW2))
    rw [← HE.out.1, ← HE.out.2]
    have HRG : Kp (Blk W1 A p.robj ∧ Blk W1 R (.cells (prc Z).toArray 40) ∧ Below w.heap.size w W1) := ⟨HW.out.a, HW.out.r, HW.out.hb⟩
    refine wp_region_held_drew (S := fun w' => Blk w' A (p).robj ∧ ∃ qz : PS, Blk w' R (.cells (prc qz).toArray 40)) (by kernel_rfl) (⟨HRG.out.1.draw, _, HRG.out.2.1.draw⟩) (fun hH => ?_)
    refine wpAnyH_take (i := 0) (oi := { dst := some 17, op := Go.Op.load 40 (Go.Operand.tmp 2), type := 40, pos := "ref.go:61", after := #[{ on := 2, ground := Go.Ground.gcOnly Go.Departure.lateStores }], guard := none }) (v := .agg (prc p).toArray) rfl (by kernel_rfl) (by kernel_rfl) (by kernel_rfl) (fun _ _ _ h => h) (Or.inl ⟨by rfl, fun w hS => exec_load_mid (cs := prc p) rfl rfl (hS.1.range (o := 0) rfl) Try.underlying40 rfl (by kernel_rfl)⟩) hH ?_
    simp only [Act.put, List.setIfInBounds_toArray, List.set_cons_zero, List.set_cons_succ]
    refine wpAnyH_take (i := 1) (oi := { dst := some 4, op := Go.Op.assign (Go.Operand.const (Go.Value.bool false)), type := 4, pos := "ref.go:61", after := #[{ on := 0, ground := Go.Ground.textOnly Go.Departure.lateStores }], guard := none }) (v := .bool false) rfl (by kernel_rfl) (by kernel_rfl) (by kernel_rfl) (fun _ _ _ h => h) (Or.inl ⟨by rfl, fun w hS => by go_simp⟩) hH ?_
    simp only [Act.put, List.setIfInBounds_toArray, List.set_cons_zero, List.set_cons_succ]
    refine wpAnyH_take (i := 2) (oi := { dst := some 5, op := Go.Op.assign (Go.Operand.const (Go.Value.slice none 0 0)), type := 48, pos := "ref.go:61", after := #[{ on := 1, ground := Go.Ground.chain }, { on := 0, ground := Go.Ground.textOnly Go.Departure.lateStores }, { on := 1, ground := Go.Ground.phase }], guard := none }) (v := .slice none 0 0) rfl (by kernel_rfl) (by kernel_rfl) (by kernel_rfl) (fun _ _ _ h => h) (Or.inl ⟨by rfl, fun w hS => by go_simp⟩) hH ?_
    simp only [Act.put, List.setIfInBounds_toArray, List.set_cons_zero, List.set_cons_succ]
    refine wpAnyH_ready (rs := [3]) (by kernel_rfl) (by simp) ?_
    refine AllReadyH.cons (o := { dst := none, op := Go.Op.store 40 (Go.Operand.tmp 6) (Go.Operand.tmp 17), type := 0, pos := "ref.go:61", after := #[{ on := 0, ground := Go.Ground.data }, { on := 2, ground := Go.Ground.chain }, { on := 0, ground := Go.Ground.phase }, { on := 1, ground := Go.Ground.phase }, { on := 2, ground := Go.Ground.phase }], guard := none }) rfl (fun K hK => ?_) AllReadyH.nil
    obtain ⟨hHA, qz, hHR⟩ := hH
    refine wp_store_row 40 (.tmp 6) (.tmp 17) rfl R (prc p).toArray rfl rfl 40 _ hHR (info40s _) rfl (all_oneCell_toArray (prc_one _)) ?_
    have hH := hHA
    have HFI : Kp (Blk ((W1.drew).setRow R (prc p).toArray) R (.cells (prc p).toArray 40) ∧ Below w.heap.size w ((W1.drew).setRow R (prc p).toArray)) := ⟨Blk.setRow hHR _, Below.row (Below.drew HRG.out.2.2) HLR.out _⟩
    refine hK.out _ _ (⟨(setRow_other _ _ _ _ (fun e => HAR.out e)).trans hHA, _, HFI.out.1⟩) (fun hHn => ?_)
    clear hK K hH
    have hH := hHn
    clear hHn
    try simp only [Act.put, List.setIfInBounds_toArray, List.set_cons_zero, List.set_cons_succ]
    clear hH
    refine wpAnyH_done (by kernel_rfl) ?_ _
    clear HRG HW
    revert HFI
    generalize World.setRow _ _ _ = w5
    intro HFI
    go_wp2_with fail
    exact bodyPost_ret (v := .tuple #[.bool false, .slice none 0 0, .agg (prc p).toArray]) (ret15 rfl rfl rfl HFI.out.1) rfl ⟨.slice none 0 0, by rw [HD.out.1, HD.out.2.2], by rw [HD.out.2.1]; exact World.ownsRow_nil _ _ _ _, HFI.out.2⟩
end Go.Proofs.Ytfnjfoconklhiaa
