/-
  The document's Note.
-/
import Derived.Test.YtfnjfoconklhiaaStI
namespace Go.Proofs.Ytfnjfoconklhiaa
open Go.RowKit

theorem results_tmp_row {P : Program} {fn : Func} {p q : Tmp} {ty : TypeId} (h : fn.results = #[.tmp q, .cell p ty]) (tmps : Array Value) (w : World) (g : Nat) (t : TypeId) (cs : Array Value) (fr : Nat × Nat) (d : TypeDesc)
    (hp : tmps.getD p undef = .pointer (some ⟨g, 0, none⟩)) (hg : w.heap[g]? = some (.cells cs t fr))
    (hu : P.underlying ty = some d) (hd : (match d with | .struct _ | .array _ _ => true | _ => false) = true) (hi : (P.info? ty).map (·.size) = some cs.size) :
    (results fn tmps).run P w = .ok (.tuple #[tmps.getD q undef, .agg cs]) w := by
  have hp' : tmps[p]?.getD undef = .pointer (some ⟨g, 0, none⟩) := by simpa using hp
  simp [results, h, hp', asAddr, run_loadVar_row w g t ty cs fr d hg hu hd hi]
theorem ret11 {tmps : Array Value} {w : World} {q : PS} {x : Int} {g : Nat} (h10 : tmps.getD 10 undef = .int .i64 x) (h11 : tmps.getD 11 undef = .pointer (some ⟨g, 0, none⟩)) (hg : Blk w g q.robj) : (results Try.f11 tmps).run Try.prog w = .ok (.tuple #[.int .i64 x, .agg (prc q).toArray]) w := by
  have := results_tmp_row (P := Try.prog) Try.results11 tmps w g 40 (prc q).toArray (0, 0) _ h11 hg Try.underlying40 rfl (info40s q)
  rw [h10] at this
  exact this
def ps00 : PS := ⟨0, 0, false, 0, fun _ => nw0⟩
theorem info40z : (Try.prog.info? 40).map (fun i => (i.zero, i.size)) = some (some (.agg (prc ps00).toArray), 60) := by kernel_rfl
theorem prc_self (p : PS) (d : Nat) : p.put d (p.all d) = p := PS.put_self p d
theorem rnw_range {p : PS} {d b : Nat} {w : World} {t : TypeId} (h : Blk w b (.cells (prc p).toArray t)) (hd : d < 8) : w.rangeAt b (4 + d * 7) (nrc (p.all d)) := fun j v hv => by
  have hj : j < 7 := (List.getElem?_eq_some_iff.1 hv).1
  rw [h.cell (4 + d * 7 + j), List.getElem?_toArray, prc_at p hd hj]
  exact hv
theorem prc_splice (p : PS) {d : Nat} (hd : d < 8) (n : NW) : splice (prc p) (4 + d * 7) (nrc n) = prc (p.put d n) := by
  match d, hd with
  | 0, _ | 1, _ | 2, _ | 3, _ | 4, _ | 5, _ | 6, _ | 7, _ => rfl
def RNotePost (p : PS) (now d e s m : Int) (u : Bool) (w : World) (r : Ending) (w' : World) : Prop :=
  r = .returned (.tuple #[.int .i64 (if noteB now d e s m = true then 0 else 1), .agg (prc (p.note now d e s m u)).toArray]) ∧ Below w.heap.size w w'
set_option maxRecDepth 100000 in
set_option maxHeartbeats 3200000 in
theorem rnote_no (p : PS) (now d e s m : Int) (u : Bool) (w : World) (hno : noteB now d e s m = false) :
    Calls Try.prog 11 #[.agg (prc p).toArray, .int .i64 now, .int .i64 d, keyV e s m, .bool u] w (RNotePost p now d e s m u w) := by
  have HP : Kp (∀ r w', r = .returned (.tuple #[.int .i64 1, .agg (prc p).toArray]) → Below w.heap.size w w' → RNotePost p now d e s m u w r w') := ⟨fun r w' h1 h2 => by
    unfold RNotePost PS.note
    rw [hno]
    exact ⟨h1, h2⟩⟩
  have hC := fun (w : World) => box_row (t := 40) (cs := prc p) (info40s p) w
  have HR := fun w1 => rkright_any e s m w1
  have hw : d < 0 ∨ 8 ≤ d ∨ (0 ≤ d ∧ d < 8) ∧ (now < 0 ∨ 1099511627776 < now) ∨ ((0 ≤ d ∧ d < 8) ∧ (0 ≤ now ∧ now ≤ 1099511627776)) ∧ krB e s m = false := by
    cases hk : krB e s m
    · by_cases hd : 0 ≤ d ∧ d < 8
      · by_cases ht : 0 ≤ now ∧ now ≤ 1099511627776
        · exact .inr (.inr (.inr ⟨⟨hd, ht⟩, rfl⟩))
        · omega
      · omega
    · by_cases hd : 0 ≤ d ∧ d < 8
      · by_cases ht : 0 ≤ now ∧ now ≤ 1099511627776
        · exfalso
          simp [noteB, hk, tmB, hd, ht] at hno
        · omega
      · omega
  obtain ⟨A, hA⟩ : ∃ A, A = w.heap.size := ⟨_, rfl⟩
  obtain ⟨C, hC'⟩ : ∃ C, C = A + 1 := ⟨_, rfl⟩
  obtain ⟨R, hR'⟩ : ∃ R, R = C + 1 := ⟨_, rfl⟩
  have HAR : Kp (A ≠ R) := ⟨by omega⟩
  have HLR : Kp (w.heap.size ≤ R) := ⟨by omega⟩
  obtain ⟨Z, hZ⟩ : ∃ Z, Z = ps00 := ⟨_, rfl⟩
  obtain ⟨W, hW⟩ : ∃ W, W = (((w.alloc (.cells (prc p).toArray 40)).alloc (.cells #[.int .u32 e, .int .u32 s, .int .i64 m] 35)).alloc (.cells (prc Z).toArray 40)) := ⟨_, rfl⟩
  have HW : Kp (Blk W A p.robj ∧ Blk W C (.cells #[.int .u32 e, .int .u32 s, .int .i64 m] 35) ∧ Blk W R (.cells (prc Z).toArray 40) ∧ Below w.heap.size w W) := ⟨by
    rw [hW]
    exact ⟨((Blk.newAt _ hA).old _).old _, (Blk.newAt _ (by rw [hC', hA]; simp)).old _, Blk.newAt _ (by rw [hR', hC', hA]; simp), more (more (more (Below.refl _ _) _) _) _⟩⟩
  have HINF : Kp ((Try.prog.info? 40).map (fun i => (i.zero, i.size)) = some (some (.agg (prc Z).toArray), 60)) := ⟨by rw [hZ]; exact info40z⟩
  have HWE := Kp.mk hW
  have HE := Kp.mk (And.intro hA (And.intro hC' hR'))
  clear hno hZ hW hA hC' hR'
  rcases hw with hw | hw | ⟨hd, hw | hw⟩ | ⟨⟨hd, ht⟩, hk⟩
  case' inr.inr.inr => rw [hk] at HR
  all_goals
    go_enter Try.func11, Try.ntmps11
    go_wp2_with (first
      | (refine wpList_box_eq rfl 40 (.tmp 0) rfl _ rfl _ _ (hC _) ?_)
      | (refine wpList_alloc_row rfl 40 rfl (prc Z).toArray 60 HINF.out ?_; refine wpl_world (· = W) (by show _ = W; rw [HWE.out]) ?_; intro W1 hW1; have hW2 : W1 = W := hW1; subst hW2; obtain ⟨k0, k1, k2, -⟩ := HW.out.2.1.three; rw [HE.out.2.1, HE.out.1] at k0 k1 k2))
  all_goals
    rw [← HE.out.1, ← HE.out.2.1, ← HE.out.2.2]
    have HRG0 : Kp (Blk W1 A p.robj ∧ Blk W1 R (.cells (prc Z).toArray 40) ∧ Below w.heap.size w W1) := ⟨HW.out.1, HW.out.2.2.1, HW.out.2.2.2⟩
    have HRG := HRG0
    first
      | (refine (HR _).mono ?_
         clear HRG
         rintro r w1 ⟨rfl, hb⟩
         have HRG : Kp (Blk w1 A p.robj ∧ Blk w1 R (.cells (prc Z).toArray 40) ∧ Below w.heap.size w w1) := ⟨HRG0.out.1.keep hb, HRG0.out.2.1.keep hb, HRG0.out.2.2.trans (hb.mono HRG0.out.2.2.size)⟩
         clear hb
         go_wp2_with fail
         revert HRG
         generalize w1 = W3
         intro HRG)
      | (revert HRG; generalize W1 = W3; intro HRG)
    refine wp_region_held_drew (S := fun w' => Blk w' A (p).robj ∧ ∃ qz : PS, Blk w' R (.cells (prc qz).toArray 40)) (by kernel_rfl) (⟨HRG.out.1.draw, _, HRG.out.2.1.draw⟩) (fun hH => ?_)
    refine wpAnyH_take (i := 0) (oi := { dst := some 32, op := Go.Op.load 40 (Go.Operand.tmp 5), type := 40, pos := "ref.go:42", after := #[{ on := 1, ground := Go.Ground.gcOnly Go.Departure.lateStores }], guard := none }) (v := .agg (prc p).toArray) rfl (by kernel_rfl) (by kernel_rfl) (by kernel_rfl) (fun _ _ _ h => h) (Or.inl ⟨by rfl, fun w hS => exec_load_mid (cs := prc p) rfl rfl (hS.1.range (o := 0) rfl) Try.underlying40 rfl (by kernel_rfl)⟩) hH ?_
    simp only [Act.put, List.setIfInBounds_toArray, List.set_cons_zero, List.set_cons_succ]
    refine wpAnyH_take (i := 1) (oi := { dst := some 10, op := Go.Op.assign (Go.Operand.const (Go.Value.int Go.IntKind.i64 1)), type := 3, pos := "ref.go:42", after := #[{ on := 0, ground := Go.Ground.textOnly Go.Departure.lateStores }], guard := none }) (v := .int .i64 1) rfl (by kernel_rfl) (by kernel_rfl) (by kernel_rfl) (fun _ _ _ h => h) (Or.inl ⟨by rfl, fun w hS => by go_simp⟩) hH ?_
    simp only [Act.put, List.setIfInBounds_toArray, List.set_cons_zero, List.set_cons_succ]
    refine wpAnyH_ready (rs := [2]) (by kernel_rfl) (by simp) ?_
    refine AllReadyH.cons (o := { dst := none, op := Go.Op.store 40 (Go.Operand.tmp 11) (Go.Operand.tmp 32), type := 0, pos := "ref.go:42", after := #[{ on := 0, ground := Go.Ground.data }, { on := 1, ground := Go.Ground.chain }, { on := 0, ground := Go.Ground.phase }, { on := 1, ground := Go.Ground.phase }], guard := none }) rfl (fun K hK => ?_) AllReadyH.nil
    obtain ⟨hHA, qz, hHR⟩ := hH
    refine wp_store_row 40 (.tmp 11) (.tmp 32) rfl R (prc p).toArray rfl rfl 40 _ hHR (info40s _) rfl (all_oneCell_toArray (prc_one _)) ?_
    have hH := hHA
    have HFI : Kp (Blk ((W3.drew).setRow R (prc p).toArray) R (.cells (prc p).toArray 40) ∧ Below w.heap.size w ((W3.drew).setRow R (prc p).toArray)) := ⟨Blk.setRow hHR _, Below.row (Below.drew HRG.out.2.2) HLR.out _⟩
    refine hK.out _ _ (⟨(setRow_other _ _ _ _ (fun e => HAR.out e)).trans hHA, _, HFI.out.1⟩) (fun hHn => ?_)
    clear hK K hH
    have hH := hHn
    clear hHn
    try simp only [Act.put, List.setIfInBounds_toArray, List.set_cons_zero, List.set_cons_succ]
    clear hH
    refine wpAnyH_done (by kernel_rfl) ?_ _
    clear HRG HRG0
    revert HFI
    generalize World.setRow _ _ _ = w5
    intro HFI
    go_wp2_with fail
    exact bodyPost_ret (v := .tuple #[.int .i64 1, .agg (prc p).toArray]) (ret11 rfl rfl HFI.out.1) rfl (HP.out _ _ rfl HFI.out.2)
end Go.Proofs.Ytfnjfoconklhiaa
