/-
  The document's Due: some.
-/
import Derived.Test.YtfnjfoconklhiaaStQ
namespace Go.Proofs.Ytfnjfoconklhiaa
open Go.RowKit

theorem row_setRow {w : World} {B b : Nat} {v : Value} {n : Nat} {xs : List Value} {cs : Array Value} {t : TypeId} (h : w.ownsRow B 3 1 v n xs) (hk : Blk w b (.cells cs t)) (ht : t ≠ 3) (cs' : Array Value) : (w.drew.setRow b cs').ownsRow B 3 1 v n xs := by
  have h0 : w.drew.ownsRow B 3 1 v n xs := h
  refine h0.kept (row := some b) ⟨rfl, rfl, rfl, by simp [World.setRow], fun k hk hne => by
    simp only [World.setRow]
    rw [Array.getElem?_modify, if_neg (fun e => hne (by rw [e]))]⟩ ?_
  cases hv : v.ownBlock with
  | none => exact .inl rfl
  | some k =>
    refine .inr fun e => ?_
    obtain ⟨cur, hc⟩ := ownsRow_type h hv
    have e' : k = b := by simpa using e
    subst e'
    rw [show w.heap[k]? = _ from hk] at hc
    injection hc with e
    injection e with _ e
    exact ht e
set_option maxRecDepth 100000 in
set_option maxHeartbeats 6400000 in
theorem rdue_part (p : PS) (now : Int) (w : World) (hp : p.Ok) (ht : tmB now = true) (hev : p.ever = true) (hlt : now - p.told < p.period) : Calls Try.prog 15 #[.agg (prc p).toArray, .int .i64 now] w (RDuePost p now w) := by
  have hf : p.full now = false := by simp [PS.full, hev]; omega
  obtain ⟨Q, hQ⟩ : ∃ Q, Q = p.ripe now := ⟨_, rfl⟩
  have HPX : Kp (∀ v w5, w5.ownsRow w.heap.size 3 1 v (those p Q 8).length (nv (those p Q 8)) → Below w.heap.size w w5 → RDuePost p now w (.returned (.tuple #[.bool false, v, .agg (prc (p.tell (those p Q 8))).toArray])) w5) := ⟨fun v w5 h4 h5 => ⟨v, by rw [show p.dueF now = false by simp [PS.dueF, hf], show p.due now = p.tell (those p Q 8) by rw [hQ]; simp [PS.due, ht, hf]], by rw [show p.dueL now = those p Q 8 by rw [hQ]; simp [PS.dueL, ht, hf]]; exact h4, h5⟩⟩
  have HS := sub_in ht hp.told
  have HW64 : wrap64 (now - p.told) = now - p.told := by rw [← IntWalk.i64_left]; exact HS
  have hnow : 0 ≤ now ∧ now ≤ 1099511627776 := by simpa [tmB] using ht
  have HRIPE : Kp (∀ n : NW, n.waits = false ∧ Q n = false ∨ n.waits = true ∧ (n.urgent = true ∧ Q n = true ∨ n.urgent = false ∧ (p.settle ≤ now - n.first ∧ Q n = true ∨ now - n.first < p.settle ∧ Q n = false))) := ⟨fun n => by
    rw [hQ]
    unfold PS.ripe setT
    cases n.waits
    · simp
    · cases n.urgent
      · right
        refine ⟨rfl, .inr ⟨rfl, ?_⟩⟩
        by_cases h : p.settle ≤ now - n.first
        · left
          simp
          omega
        · right
          simp
          omega
      · right
        refine ⟨rfl, .inl ⟨rfl, ?_⟩⟩
        simp
        omega⟩
  have HSF : Kp (∀ d, d < 8 → IntKind.i64.wrap (now - (p.all d).first) = now - (p.all d).first) := ⟨fun d hd => sub_in ht (hp.first d hd)⟩
  have HEV := Kp.mk hev
  have hdec : decide (p.period ≤ now - p.told) = false := by simpa using hlt
  obtain ⟨i0, hi, hz0, hz1, hz2⟩ := info_parts info3'
  clear hev
  have hC := fun (w : World) => box_row (t := 40) (cs := prc p) (info40s p) w
  obtain ⟨A, hA⟩ : ∃ A, A = w.heap.size := ⟨_, rfl⟩
  obtain ⟨R, hR'⟩ : ∃ R, R = A + 1 := ⟨_, rfl⟩
  have HAR : Kp (A ≠ R) := ⟨by omega⟩
  have HLR : Kp (w.heap.size ≤ R) := ⟨by omega⟩
  obtain ⟨Z, hZ⟩ : ∃ Z, Z = ps00 := ⟨_, rfl⟩
  obtain ⟨W, hW⟩ : ∃ W, W = ((w.alloc (.cells (prc p).toArray 40)).alloc (.cells (prc Z).toArray 40)) := ⟨_, rfl⟩
  have HW : Kp (RD p Z A R w W) := ⟨by
    rw [hW]
    exact ⟨(Blk.newAt _ hA).old _, Blk.newAt _ (by rw [hR', hA]; simp), more (more (Below.refl _ _) _) _, by omega⟩⟩
  have HINF : Kp ((Try.prog.info? 40).map (fun i => (i.zero, i.size)) = some (some (.agg (prc Z).toArray), 60)) := ⟨by rw [hZ]; exact info40z⟩
  have HWE := Kp.mk hW
  have HE := Kp.mk (And.intro hA hR')
  clear hZ hW hA hR'
  clear ht hf hp hQ
  go_enter Try.func15, Try.ntmps15
  go_wp2_with (first
    | (refine wpList_box_eq rfl 40 (.tmp 0) rfl _ rfl _ _ (hC _) ?_)
    | (refine wpList_alloc_row rfl 40 rfl (prc Z).toArray 60 HINF.out ?_; refine wpl_world (· = W) (by show _ = W; rw [HWE.out]) ?_; intro W1 hW1; have hW2 : W1 = W := hW1; subst hW2; have c2 : W1.cell? ⟨w.heap.size, 2, none⟩ = some (.bool true) := by { rw [← HE.out.1]; exact (HW.out.a.cell 2).trans (by rw [← HEV.out]; rfl) }; have c3 : W1.cell? ⟨w.heap.size, 3, none⟩ = some (.int .i64 p.told) := by { rw [← HE.out.1]; exact HW.out.a.cell 3 }; have c0 : W1.cell? ⟨w.heap.size, 0, none⟩ = some (.int .i64 p.period) := by { rw [← HE.out.1]; exact HW.out.a.cell 0 }))
  rw [← HE.out.1, ← HE.out.2]
  have K0 := Kp.mk HW.out
  clear HW HS HW64 c2 c3 c0 hlt hdec
  go_loopw [8, 9] (fun v ct wr => ∃ d : Nat, d ≤ 8 ∧ ct = .int .i64 d ∧ Kp (wr.ownsRow w.heap.size 3 1 v (those p Q d).length (nv (those p Q d))) ∧ Kp (RD (p.tell (those p Q d)) Z A R w wr)) (fun _ ct _ => 8 - (intOf ct).toNat)
  case atStart => exact ⟨0, by omega, rfl, ⟨World.ownsRow_nil _ _ _ _⟩, by rw [show those p Q 0 = [] from rfl, PS.tell_nil]; exact K0⟩
  case round =>
    obtain ⟨d, hd8, rfl, O0, D0⟩ := hrel
    by_cases hlt : d < 8
    · have HD8 := Kp.mk hlt
      have hlt' : (d : Int) < 8 := by omega
      have HTP : Kp ((p.tell (those p Q d)).all d = p.all d ∧ (p.tell (those p Q d)).put d (p.all d).tell = p.tell (those p Q d ++ [d])) := ⟨tell_put those_lt⟩
      have HRA : Kp (wr.rangeAt A (4 + d * 7) (nrc (p.all d))) := ⟨by rw [← HTP.out.1]; exact rnw_range D0.out.a hlt⟩
      have HYN := Kp.mk (And.intro (those_yes (p := p) (q := Q) (i := d)) (those_no (p := p) (q := Q) (i := d)))
      have HL := Kp.mk (those_len p Q d)
      have hsf := HSF.out d hlt
      obtain ⟨n, hn⟩ : ∃ n, n = p.all d := ⟨_, rfl⟩
      rw [← hn] at HRA HTP HYN hsf
      have hsf' : wrap64 (now - n.first) = now - n.first := by rw [← IntWalk.i64_left]; exact hsf
      clear hn
      rcases HRIPE.out n with ⟨hw, hq⟩ | ⟨hw, ⟨hu, hq⟩ | ⟨hu, ⟨hs, hq⟩ | ⟨hs, hq⟩⟩⟩
      · have HNW := Kp.mk hw
        have HQ := Kp.mk (HYN.out.2 hq)
        clear hw hq HYN
        go_upto_region 9 with (first
          | (refine wpList_load_mid rfl 37 (.tmp 37) rfl A (4 + d * 7) rfl (nrc n) _ HRA.out Try.underlying37 rfl (by kernel_rfl) ?_)
          | (refine wpList_store_row rfl 37 (.tmp 10) (.tmp 38) rfl wr.heap.size (nrc n).toArray rfl rfl 37 _ (Blk.newAt _ rfl) (info37s n) rfl (all_oneCell_toArray (nrc_one n)) ?_
             rw [World.setRow_alloc_new]
             refine wpl_world (fun W => RD (p.tell (those p Q d)) Z A R w W ∧ Blk W wr.heap.size (.cells (nrc n).toArray 37) ∧ W.ownsRow w.heap.size 3 1 u8 (those p Q d).length (nv (those p Q d))) ⟨D0.out.keep (more (Below.refl _ _) _), Blk.new _ _, O0.out.alloc _⟩ ?_
             intro W2 hW2
             have H2 := Kp.mk hW2
             have m4 : W2.cell? ⟨wr.heap.size, 4, none⟩ = some (.bool n.waits) := hW2.2.1.cell 4
             have m5 : W2.cell? ⟨wr.heap.size, 5, none⟩ = some (.bool n.urgent) := hW2.2.1.cell 5
             have m6 : W2.cell? ⟨wr.heap.size, 6, none⟩ = some (.int .i64 n.first) := hW2.2.1.cell 6
             have a1 : W2.cell? ⟨A, 1, none⟩ = some (.int .i64 p.settle) := hW2.1.a.cell 1
             rw [HNW.out] at m4
             
             clear hW2))
        go_wp2_with fail
        exact ⟨⟨d + 1, by omega, by go_num, by rw [HQ.out]; exact ⟨H2.out.2.2⟩, by rw [HQ.out]; exact ⟨H2.out.1⟩⟩, by simp [intOf]; omega⟩
      · have HNW := Kp.mk hw
        have HNU := Kp.mk hu
        have HQ := Kp.mk (HYN.out.1 hq)
        clear hw hu hq HYN
        go_upto_region 9 with (first
          | (refine wpList_load_mid rfl 37 (.tmp 37) rfl A (4 + d * 7) rfl (nrc n) _ HRA.out Try.underlying37 rfl (by kernel_rfl) ?_)
          | (refine wpList_store_row rfl 37 (.tmp 10) (.tmp 38) rfl wr.heap.size (nrc n).toArray rfl rfl 37 _ (Blk.newAt _ rfl) (info37s n) rfl (all_oneCell_toArray (nrc_one n)) ?_
             rw [World.setRow_alloc_new]
             refine wpl_world (fun W => RD (p.tell (those p Q d)) Z A R w W ∧ Blk W wr.heap.size (.cells (nrc n).toArray 37) ∧ W.ownsRow w.heap.size 3 1 u8 (those p Q d).length (nv (those p Q d))) ⟨D0.out.keep (more (Below.refl _ _) _), Blk.new _ _, O0.out.alloc _⟩ ?_
             intro W2 hW2
             have H2 := Kp.mk hW2
             have m4 : W2.cell? ⟨wr.heap.size, 4, none⟩ = some (.bool n.waits) := hW2.2.1.cell 4
             have m5 : W2.cell? ⟨wr.heap.size, 5, none⟩ = some (.bool n.urgent) := hW2.2.1.cell 5
             have m6 : W2.cell? ⟨wr.heap.size, 6, none⟩ = some (.int .i64 n.first) := hW2.2.1.cell 6
             have a1 : W2.cell? ⟨A, 1, none⟩ = some (.int .i64 p.settle) := hW2.1.a.cell 1
             rw [HNW.out] at m4
             rw [HNU.out] at m5
             have p4 : W2.cell? ⟨A, 4 + d * 7 + 4, none⟩ = some (.bool ((p.tell (those p Q d)).all d).waits) := (hW2.1.a.cell _).trans (by rw [List.getElem?_toArray, prc_at _ HD8.out (by omega)]; rfl)
             have p5 : W2.cell? ⟨A, 4 + d * 7 + 5, none⟩ = some (.bool ((p.tell (those p Q d)).all d).urgent) := (hW2.1.a.cell _).trans (by rw [List.getElem?_toArray, prc_at _ HD8.out (by omega)]; rfl)
             have f4 := hW2.1.a.frozen (4 + d * 7 + 4)
             have f5 := hW2.1.a.frozen (4 + d * 7 + 5)
             clear hW2))
        obtain ⟨l, hl⟩ : ∃ l, l = those p Q d := ⟨_, rfl⟩
        rw [← hl] at H2 HTP HQ HL
        clear p4 p5 f4 f5 hl
        go_wp2_with (at_builtin; refine wpList_append_own _ rfl _ _ 48 rfl w.heap.size 3 i0 (.int .i64 0) 1 8 Try.underlying48 hi hz0 hz1 hz2 rfl (by decide) _ l.length (nv l) rfl (H2.out.2.2.alloc _) ⟨W2.heap.size, 0, none⟩ 1 1 [.int .i64 d] rfl rfl ?c1 ?c2 ?c3 ?c4 ?c5 ?_)
        case c1 =>
          intro j u hj
          match j, hj with
          | 0, hj => simp at hj; subst hj; simp [Addr.add]
        case c2 =>
          intro u hu
          simp at hu
          subst hu
          rfl
        case c3 => have := HL.out; unfold maxLen; omega
        case c4 => have := HL.out; omega
        case c5 => have := H2.out.1.hb.size; simp; omega
        · intro v' w3 hown' hgrow _
          have HO3 := Kp.mk hown'
          have H3 : Kp (RD (p.tell l) Z A R w w3) := ⟨(H2.out.1.keep (more (Below.refl _ _) _)).grown (H2.out.2.2.alloc _) (Nat.le_refl _) hgrow⟩
          clear hown' hgrow
          have p4 : w3.cell? ⟨A, 4 + d * 7 + 4, none⟩ = some (.bool ((p.tell l).all d).waits) := (H3.out.a.cell _).trans (by rw [List.getElem?_toArray, prc_at _ HD8.out (by omega)]; rfl)
          have p5 : w3.cell? ⟨A, 4 + d * 7 + 5, none⟩ = some (.bool ((p.tell l).all d).urgent) := (H3.out.a.cell _).trans (by rw [List.getElem?_toArray, prc_at _ HD8.out (by omega)]; rfl)
          have f4 := H3.out.a.frozen (4 + d * 7 + 4)
          have f5 := H3.out.a.frozen (4 + d * 7 + 5)
          have HOT : Kp (((w3.setCell ⟨A, 4 + d * 7 + 4, none⟩ (.bool false)).setCell ⟨A, 4 + d * 7 + 5, none⟩ (.bool false)).ownsRow w.heap.size 3 1 v' (l ++ [d]).length (nv (l ++ [d]))) := ⟨by
            have h9 := row_turn HO3.out H3.out.a (by decide) (((Turn.same H3.out.a).set (4 + d * 7 + 4) (.bool false)).set (4 + d * 7 + 5) (.bool false))
            simpa [nv] using h9⟩
          go_wp2_with fail
          exact ⟨⟨d + 1, by omega, by go_num, by rw [HQ.out]; exact HOT, by rw [HQ.out, ← HTP.out.2, ← HTP.out.1]; exact ⟨H3.out.tell HD8.out⟩⟩, by simp [intOf]; omega⟩
      · have HNW := Kp.mk hw
        have HNU := Kp.mk hu
        have HQ := Kp.mk (HYN.out.1 hq)
        clear hw hu hq HYN
        go_upto_region 9 with (first
          | (refine wpList_load_mid rfl 37 (.tmp 37) rfl A (4 + d * 7) rfl (nrc n) _ HRA.out Try.underlying37 rfl (by kernel_rfl) ?_)
          | (refine wpList_store_row rfl 37 (.tmp 10) (.tmp 38) rfl wr.heap.size (nrc n).toArray rfl rfl 37 _ (Blk.newAt _ rfl) (info37s n) rfl (all_oneCell_toArray (nrc_one n)) ?_
             rw [World.setRow_alloc_new]
             refine wpl_world (fun W => RD (p.tell (those p Q d)) Z A R w W ∧ Blk W wr.heap.size (.cells (nrc n).toArray 37) ∧ W.ownsRow w.heap.size 3 1 u8 (those p Q d).length (nv (those p Q d))) ⟨D0.out.keep (more (Below.refl _ _) _), Blk.new _ _, O0.out.alloc _⟩ ?_
             intro W2 hW2
             have H2 := Kp.mk hW2
             have m4 : W2.cell? ⟨wr.heap.size, 4, none⟩ = some (.bool n.waits) := hW2.2.1.cell 4
             have m5 : W2.cell? ⟨wr.heap.size, 5, none⟩ = some (.bool n.urgent) := hW2.2.1.cell 5
             have m6 : W2.cell? ⟨wr.heap.size, 6, none⟩ = some (.int .i64 n.first) := hW2.2.1.cell 6
             have a1 : W2.cell? ⟨A, 1, none⟩ = some (.int .i64 p.settle) := hW2.1.a.cell 1
             rw [HNW.out] at m4
             rw [HNU.out] at m5
             have p4 : W2.cell? ⟨A, 4 + d * 7 + 4, none⟩ = some (.bool ((p.tell (those p Q d)).all d).waits) := (hW2.1.a.cell _).trans (by rw [List.getElem?_toArray, prc_at _ HD8.out (by omega)]; rfl)
             have p5 : W2.cell? ⟨A, 4 + d * 7 + 5, none⟩ = some (.bool ((p.tell (those p Q d)).all d).urgent) := (hW2.1.a.cell _).trans (by rw [List.getElem?_toArray, prc_at _ HD8.out (by omega)]; rfl)
             have f4 := hW2.1.a.frozen (4 + d * 7 + 4)
             have f5 := hW2.1.a.frozen (4 + d * 7 + 5)
             clear hW2))
        obtain ⟨l, hl⟩ : ∃ l, l = those p Q d := ⟨_, rfl⟩
        rw [← hl] at H2 HTP HQ HL
        clear p4 p5 f4 f5 hl
        go_wp2_with (at_builtin; refine wpList_append_own _ rfl _ _ 48 rfl w.heap.size 3 i0 (.int .i64 0) 1 8 Try.underlying48 hi hz0 hz1 hz2 rfl (by decide) _ l.length (nv l) rfl (H2.out.2.2.alloc _) ⟨W2.heap.size, 0, none⟩ 1 1 [.int .i64 d] rfl rfl ?c1 ?c2 ?c3 ?c4 ?c5 ?_)
        case c1 =>
          intro j u hj
          match j, hj with
          | 0, hj => simp at hj; subst hj; simp [Addr.add]
        case c2 =>
          intro u hu
          simp at hu
          subst hu
          rfl
        case c3 => have := HL.out; unfold maxLen; omega
        case c4 => have := HL.out; omega
        case c5 => have := H2.out.1.hb.size; simp; omega
        · intro v' w3 hown' hgrow _
          have HO3 := Kp.mk hown'
          have H3 : Kp (RD (p.tell l) Z A R w w3) := ⟨(H2.out.1.keep (more (Below.refl _ _) _)).grown (H2.out.2.2.alloc _) (Nat.le_refl _) hgrow⟩
          clear hown' hgrow
          have p4 : w3.cell? ⟨A, 4 + d * 7 + 4, none⟩ = some (.bool ((p.tell l).all d).waits) := (H3.out.a.cell _).trans (by rw [List.getElem?_toArray, prc_at _ HD8.out (by omega)]; rfl)
          have p5 : w3.cell? ⟨A, 4 + d * 7 + 5, none⟩ = some (.bool ((p.tell l).all d).urgent) := (H3.out.a.cell _).trans (by rw [List.getElem?_toArray, prc_at _ HD8.out (by omega)]; rfl)
          have f4 := H3.out.a.frozen (4 + d * 7 + 4)
          have f5 := H3.out.a.frozen (4 + d * 7 + 5)
          have HOT : Kp (((w3.setCell ⟨A, 4 + d * 7 + 4, none⟩ (.bool false)).setCell ⟨A, 4 + d * 7 + 5, none⟩ (.bool false)).ownsRow w.heap.size 3 1 v' (l ++ [d]).length (nv (l ++ [d]))) := ⟨by
            have h9 := row_turn HO3.out H3.out.a (by decide) (((Turn.same H3.out.a).set (4 + d * 7 + 4) (.bool false)).set (4 + d * 7 + 5) (.bool false))
            simpa [nv] using h9⟩
          go_wp2_with fail
          exact ⟨⟨d + 1, by omega, by go_num, by rw [HQ.out]; exact HOT, by rw [HQ.out, ← HTP.out.2, ← HTP.out.1]; exact ⟨H3.out.tell HD8.out⟩⟩, by simp [intOf]; omega⟩
      · have HNW := Kp.mk hw
        have HNU := Kp.mk hu
        have HQ := Kp.mk (HYN.out.2 hq)
        clear hw hu hq HYN
        go_upto_region 9 with (first
          | (refine wpList_load_mid rfl 37 (.tmp 37) rfl A (4 + d * 7) rfl (nrc n) _ HRA.out Try.underlying37 rfl (by kernel_rfl) ?_)
          | (refine wpList_store_row rfl 37 (.tmp 10) (.tmp 38) rfl wr.heap.size (nrc n).toArray rfl rfl 37 _ (Blk.newAt _ rfl) (info37s n) rfl (all_oneCell_toArray (nrc_one n)) ?_
             rw [World.setRow_alloc_new]
             refine wpl_world (fun W => RD (p.tell (those p Q d)) Z A R w W ∧ Blk W wr.heap.size (.cells (nrc n).toArray 37) ∧ W.ownsRow w.heap.size 3 1 u8 (those p Q d).length (nv (those p Q d))) ⟨D0.out.keep (more (Below.refl _ _) _), Blk.new _ _, O0.out.alloc _⟩ ?_
             intro W2 hW2
             have H2 := Kp.mk hW2
             have m4 : W2.cell? ⟨wr.heap.size, 4, none⟩ = some (.bool n.waits) := hW2.2.1.cell 4
             have m5 : W2.cell? ⟨wr.heap.size, 5, none⟩ = some (.bool n.urgent) := hW2.2.1.cell 5
             have m6 : W2.cell? ⟨wr.heap.size, 6, none⟩ = some (.int .i64 n.first) := hW2.2.1.cell 6
             have a1 : W2.cell? ⟨A, 1, none⟩ = some (.int .i64 p.settle) := hW2.1.a.cell 1
             rw [HNW.out] at m4
             rw [HNU.out] at m5
             
             clear hW2))
        go_wp2_with fail
        exact ⟨⟨d + 1, by omega, by go_num, by rw [HQ.out]; exact ⟨H2.out.2.2⟩, by rw [HQ.out]; exact ⟨H2.out.1⟩⟩, by simp [intOf]; omega⟩
    · obtain rfl : d = 8 := by omega
      have HRG : Kp (Blk wr A (p.tell (those p Q 8)).robj ∧ Blk wr R (.cells (prc Z).toArray 40) ∧ Below w.heap.size w wr) := ⟨D0.out.a, D0.out.r, D0.out.hb⟩
      have HORR : Kp (A < R ∧ w.heap.size ≤ A) := ⟨D0.out.lt.2, D0.out.lt.1⟩
      obtain ⟨q, hq⟩ : ∃ q : PS, q = p.tell (those p Q 8) := ⟨_, rfl⟩
      rw [← hq] at HPX HRG
      clear hq D0
      go_wp2_with fail
      have HOR : Kp ((World.setRow wr.drew R (prc q).toArray).ownsRow w.heap.size 3 1 u8 (those p Q 8).length (nv (those p Q 8))) := ⟨row_setRow O0.out HRG.out.2.1 (by decide) _⟩
      refine wp_region_held_drew (S := fun w' => Blk w' A (q).robj ∧ ∃ qz : PS, Blk w' R (.cells (prc qz).toArray 40)) (by kernel_rfl) (⟨HRG.out.1.draw, _, HRG.out.2.1.draw⟩) (fun hH => ?_)
      refine wpAnyH_take (i := 0) (oi := { dst := some 76, op := Go.Op.move (Go.Operand.tmp 7), type := 4, pos := "ref.go:79", after := #[], guard := none }) (v := .bool false) rfl (by kernel_rfl) (by kernel_rfl) (by kernel_rfl) (fun _ _ _ h => h) (Or.inl ⟨by rfl, fun w hS => by go_simp⟩) hH ?_
      simp only [Act.put, List.setIfInBounds_toArray, List.set_cons_zero, List.set_cons_succ]
      refine wpAnyH_take (i := 1) (oi := { dst := some 77, op := Go.Op.move (Go.Operand.tmp 8), type := 48, pos := "ref.go:79", after := #[{ on := 3, ground := Go.Ground.gcOnly Go.Departure.lateStores }], guard := none }) (v := u8) rfl (by kernel_rfl) (by kernel_rfl) (by kernel_rfl) (fun _ _ _ h => h) (Or.inl ⟨by rfl, fun w hS => by go_simp⟩) hH ?_
      simp only [Act.put, List.setIfInBounds_toArray, List.set_cons_zero, List.set_cons_succ]
      refine wpAnyH_take (i := 2) (oi := { dst := some 78, op := Go.Op.load 40 (Go.Operand.tmp 2), type := 40, pos := "ref.go:79", after := #[{ on := 4, ground := Go.Ground.gcOnly Go.Departure.lateStores }], guard := none }) (v := .agg (prc q).toArray) rfl (by kernel_rfl) (by kernel_rfl) (by kernel_rfl) (fun _ _ _ h => h) (Or.inl ⟨by rfl, fun w hS => exec_load_mid (cs := prc q) rfl rfl (hS.1.range (o := 0) rfl) Try.underlying40 rfl (by kernel_rfl)⟩) hH ?_
      simp only [Act.put, List.setIfInBounds_toArray, List.set_cons_zero, List.set_cons_succ]
      refine wpAnyH_take (i := 3) (oi := { dst := some 4, op := Go.Op.assign (Go.Operand.tmp 76), type := 4, pos := "ref.go:79", after := #[{ on := 0, ground := Go.Ground.data }, { on := 0, ground := Go.Ground.phase }, { on := 1, ground := Go.Ground.textOnly Go.Departure.lateStores }, { on := 2, ground := Go.Ground.textOnly Go.Departure.lateStores }], guard := none }) (v := .bool false) rfl (by kernel_rfl) (by kernel_rfl) (by kernel_rfl) (fun _ _ _ h => h) (Or.inl ⟨by rfl, fun w hS => by go_simp⟩) hH ?_
      simp only [Act.put, List.setIfInBounds_toArray, List.set_cons_zero, List.set_cons_succ]
      refine wpAnyH_take (i := 4) (oi := { dst := some 5, op := Go.Op.assign (Go.Operand.tmp 77), type := 48, pos := "ref.go:79", after := #[{ on := 1, ground := Go.Ground.data }, { on := 3, ground := Go.Ground.chain }, { on := 0, ground := Go.Ground.phase }, { on := 1, ground := Go.Ground.phase }, { on := 2, ground := Go.Ground.textOnly Go.Departure.lateStores }, { on := 3, ground := Go.Ground.phase }], guard := none }) (v := u8) rfl (by kernel_rfl) (by kernel_rfl) (by kernel_rfl) (fun _ _ _ h => h) (Or.inl ⟨by rfl, fun w hS => by go_simp⟩) hH ?_
      simp only [Act.put, List.setIfInBounds_toArray, List.set_cons_zero, List.set_cons_succ]
      refine wpAnyH_ready (rs := [5]) (by kernel_rfl) (by simp) ?_
      refine AllReadyH.cons (o := { dst := none, op := Go.Op.store 40 (Go.Operand.tmp 6) (Go.Operand.tmp 78), type := 0, pos := "ref.go:79", after := #[{ on := 2, ground := Go.Ground.data }, { on := 4, ground := Go.Ground.chain }, { on := 0, ground := Go.Ground.phase }, { on := 1, ground := Go.Ground.phase }, { on := 2, ground := Go.Ground.phase }, { on := 3, ground := Go.Ground.phase }, { on := 4, ground := Go.Ground.phase }], guard := none }) rfl (fun K hK => ?_) AllReadyH.nil
      obtain ⟨hHA, qz, hHR⟩ := hH
      refine wp_store_row 40 (.tmp 6) (.tmp 78) rfl R (prc q).toArray rfl rfl 40 _ hHR (info40s _) rfl (all_oneCell_toArray (prc_one _)) ?_
      have hH := hHA
      have HFI : Kp (Blk ((wr.drew).setRow R (prc q).toArray) R (.cells (prc q).toArray 40) ∧ Below w.heap.size w ((wr.drew).setRow R (prc q).toArray)) := ⟨Blk.setRow hHR _, Below.row (Below.drew HRG.out.2.2) HLR.out _⟩
      refine hK.out _ _ (⟨(setRow_other _ _ _ _ (fun e => HAR.out e)).trans hHA, _, HFI.out.1⟩) (fun hHn => ?_)
      clear hK K hH
      have hH := hHn
      clear hHn
      try simp only [Act.put, List.setIfInBounds_toArray, List.set_cons_zero, List.set_cons_succ]
      clear hH
      refine wpAnyH_done (by kernel_rfl) ?_ _
      clear HRG O0
      revert HFI HOR
      generalize World.setRow _ _ _ = w5
      intro HOR HFI
      go_wp2_with fail
      exact bodyPost_ret (v := .tuple #[.bool false, u8, .agg (prc q).toArray]) (ret15 rfl rfl rfl HFI.out.1) rfl (HPX.out _ _ HOR.out HFI.out.2)
theorem rdue_any (p : PS) (now : Int) (w : World) (hp : p.Ok) : Calls Try.prog 15 #[.agg (prc p).toArray, .int .i64 now] w (RDuePost p now w) := by
  cases ht : tmB now with
  | false => exact rdue_no p now w ht
  | true =>
    cases he : p.ever with
    | false => exact rdue_full0 p now w hp ht (by simp [PS.full, he]) he
    | true =>
      by_cases hl : p.period ≤ now - p.told
      · exact rdue_full1 p now w hp ht (by simp [PS.full, he]; omega) he hl
      · exact rdue_part p now w hp ht he (by omega)
end Go.Proofs.Ytfnjfoconklhiaa
