/-
  SettlePlays: the walk.
-/
import Derived.Test.YtfnjfoconklhiaaStW
namespace Go.Proofs.Ytfnjfoconklhiaa
open Go.RowKit

/-- The world of the steps: the program's plan s at t, the document's q at M. -/
structure PL (w : World) (t M : Nat) (s q : PS) (w' : World) : Prop where
  own : Own w t s w'
  m : Blk w' M q.robj
  ne : t ≠ M
  le : w.heap.size ≤ M
theorem PL.keep {w w1 w2 : World} {t M : Nat} {s q : PS} (h : PL w t M s q w1) (hb : Below w1.heap.size w1 w2) : PL w t M s q w2 := ⟨h.own.more hb, h.m.keep hb, h.ne, h.le⟩
theorem PL.drew {w w1 : World} {t M : Nat} {s q : PS} (h : PL w t M s q w1) : PL w t M s q w1.drew := ⟨⟨h.own.le, h.own.blk.draw, Below.drew h.own.hb, h.own.ok⟩, h.m.draw, h.ne, h.le⟩
theorem PL.drewN {w w1 : World} {t M : Nat} {s q : PS} (h : PL w t M s q w1) (n : Nat) : PL w t M s q (w1.drewN n) := ⟨⟨h.own.le, h.own.blk, Below.drewNs h.own.hb n, h.own.ok⟩, h.m, h.ne, h.le⟩
theorem PL.turn {w w1 w2 : World} {t M : Nat} {s s' q : PS} (h : PL w t M s q w1) (k : Turn t s'.obj w1 w2) (ho : s'.Ok) : PL w t M s' q w2 := ⟨h.own.step k ho, k.keep h.m h.ne.symm, h.ne, h.le⟩
theorem PL.row {w w1 : World} {t M : Nat} {s q : PS} (h : PL w t M s q w1) (q' : PS) : PL w t M s q' (w1.setRow M (prc q').toArray) :=
  ⟨⟨h.own.le, (setRow_other _ _ _ _ h.ne).trans h.own.blk, below_setRow h.own.hb h.le _, h.own.ok⟩, Blk.setRow h.m _, h.ne, h.le⟩
theorem PL.grown {w w1 w2 : World} {t M B n : Nat} {s q : PS} {v : Value} {xs : List Value} (h : PL w t M s q w1) (ho : w1.ownsRow B 3 1 v n xs) (hB : w.heap.size ≤ B) (hg : w1.grownBy w2 v.ownBlock) : PL w t M s q w2 :=
  ⟨⟨h.own.le, h.own.blk.grown ho hg (by decide), below_row_grown h.own.hb h.own.hb.size (ownsRow_base ho hB) hg, h.own.ok⟩, h.m.grown ho hg (by decide), h.ne, h.le⟩
theorem info42s (o : OpV) : (Try.prog.info? 42).map (·.size) = some (ocells o).toArray.size := by kernel_rfl
theorem ocells_one (o : OpV) : ∀ v ∈ ocells o, v.oneCell' = true := by intro v hv; simp [ocells] at hv; rcases hv with h | h | h | h | h | h | h <;> subst h <;> rfl
theorem dueL_len (s : PS) (now : Int) : (s.dueL now).length ≤ 8 := by
  unfold PS.dueL
  split
  · exact those_len _ _ _
  · simp
theorem Blk_turn {w w' : World} {a b : Nat} {cs cs' : Array Value} {t t' : TypeId} {o : Obj} (h : Blk w a (.cells cs t)) (hb : Blk w b (.cells cs' t')) (hT : Turn b o w w') (hne : t ≠ t') : Blk w' a (.cells cs t) :=
  hT.keep h (fun e => by
    subst e
    have hb' := (show w.heap[a]? = _ from h).symm.trans hb
    injection hb' with e
    injection e with _ e
    exact hne e)
theorem rwaits_at {w : World} {M d : Nat} {q : PS} (h : Blk w M q.robj) (hd : d < 8) : w.cell? ⟨M, 4 + d * 7 + 4, none⟩ = some (.bool (q.all d).waits) := (h.cell _).trans (by rw [List.getElem?_toArray, prc_at _ hd (by omega)]; rfl)
theorem K11x {w w1 : World} {t M : Nat} {s q : PS} (h : PL w t M s q w1) (n : Nat) : PL w t M s q (w1.drewN n) := h.drewN n
abbrev OpV.obj (o : OpV) : Obj := .cells (ocells o).toArray 42
theorem ocells_at {w : World} {O : Nat} {o : OpV} (h : Blk w O o.obj) : w.cell? ⟨O, 0, none⟩ = some (.int .i64 o.kind) ∧ w.cell? ⟨O, 1, none⟩ = some (.int .i64 o.now) ∧ w.cell? ⟨O, 2, none⟩ = some (.int .i64 o.dest) ∧ w.cell? ⟨O, 3, none⟩ = some (.int .u32 o.e) ∧ w.cell? ⟨O, 4, none⟩ = some (.int .u32 o.s) ∧ w.cell? ⟨O, 5, none⟩ = some (.int .i64 o.m) ∧ w.cell? ⟨O, 6, none⟩ = some (.bool o.u) :=
  ⟨h.cell 0, h.cell 1, h.cell 2, h.cell 3, h.cell 4, h.cell 5, h.cell 6⟩
set_option maxRecDepth 100000 in
set_option maxHeartbeats 12800000 in
theorem plays_yes (a b : Int) (ad : Option Addr) (len cap : Nat) (ol : List OpV) (w : World) (h : rtB a b = true) (hops : IsOps w ad len ol) : Calls Try.prog 3 #[.agg #[.int .i64 a, .int .i64 b], .slice ad len cap] w (LawPost w) := by
  have HN := fun w1 => new_yes a b w1 h
  have HR := fun w1 => right_any a b w1
  have HRR := fun w1 => rright_any a b w1
  rw [h] at HR HRR
  have HOK := Kp.mk (ps0_ok h)
  have HOPS := Kp.mk hops
  have hlm : len ≤ 9223372036854775807 := by have := hops.max; unfold maxLen at this; omega
  obtain ⟨B2, hB2⟩ : ∃ B, B = w.heap.size := ⟨_, rfl⟩
  obtain ⟨B5, hB5⟩ : ∃ B, B = B2 + 1 := ⟨_, rfl⟩
  obtain ⟨W0, hW0⟩ : ∃ W0, W0 = ((w.alloc (.cells #[.int .i64 a, .int .i64 b] 23)).alloc (.cells #[.int .i64 a, .int .i64 b] 25)) := ⟨_, rfl⟩
  have U : Kp (Blk W0 B2 (.cells #[.int .i64 a, .int .i64 b] 23) ∧ Blk W0 B5 (.cells #[.int .i64 a, .int .i64 b] 25) ∧ Below w.heap.size w W0) := ⟨by rw [hW0]; exact ⟨(Blk.newAt _ hB2).old _, Blk.newAt _ (by rw [hB5, hB2]; simp), more (more (Below.refl _ _) _) _⟩⟩
  have HE := Kp.mk (And.intro hB2 hB5)
  have HWE := Kp.mk hW0
  have HB40 := build40 a b
  have HINF : Kp ((Try.prog.info? 40).map (fun i => (i.zero, i.size)) = some (some (.agg (prc ps00).toArray), 60)) := ⟨info40z⟩
  obtain ⟨i0, hi, hz0, hz1, hz2⟩ := info_parts info3'
  obtain ⟨Z, hZ⟩ : ∃ Z, Z = ps00 := ⟨_, rfl⟩
  rw [← hZ] at HINF
  clear h hops hB2 hB5 hW0 hZ
  go_enter Try.func3, Try.ntmps3
  go_wp2_with fail
  rw [← HWE.out, ← HE.out.1, ← HE.out.2]
  refine (HN _).mono ?_
  rintro r w1 ⟨t, rfl, h1, h2, h3⟩
  have K : Kp (Blk w1 B2 (.cells #[.int .i64 a, .int .i64 b] 23) ∧ Blk w1 B5 (.cells #[.int .i64 a, .int .i64 b] 25) ∧ Own W0 t (ps0 a b) w1) := ⟨U.out.1.keep h3, U.out.2.1.keep h3, ⟨h1, h2, h3, HOK.out⟩⟩
  clear h1 h2 h3 HN
  go_wp2_with fail
  refine wp_region_flow (fun w' => Blk w' B2 (.cells #[.int .i64 a, .int .i64 b] 23) ∧ Blk w' B5 (.cells #[.int .i64 a, .int .i64 b] 25) ∧ Own W0 t (ps0 a b) w') (by kernel_rfl) (by kernel_rfl) (by kernel_rfl)
    (fun _ _ h hb => ⟨h.1.keep hb, h.2.1.keep hb, h.2.2.more hb⟩) (⟨K.out.1.draw, K.out.2.1.draw, ⟨K.out.2.2.le, K.out.2.2.blk.draw, Below.drew K.out.2.2.hb, K.out.2.2.ok⟩⟩) ?_
  repeat (first
    | (apply Flow.value
       · rfl
       · (intro wx hS; exact exec_load_mid (cs := [.int .i64 a, .int .i64 b]) rfl rfl (Blk.range (cs := [.int .i64 a, .int .i64 b]) (o := 0) hS.1 rfl) Try.underlying23 rfl (by kernel_rfl))
       try simp only [Act.put, List.setIfInBounds_toArray, List.set_cons_zero, List.set_cons_succ])
    | (apply Flow.value
       · rfl
       · (intro wx hS; exact exec_load_mid (cs := [.int .i64 a, .int .i64 b]) rfl rfl (Blk.range (cs := [.int .i64 a, .int .i64 b]) (o := 0) hS.2.1 rfl) Try.underlying25 rfl (by kernel_rfl))
       try simp only [Act.put, List.setIfInBounds_toArray, List.set_cons_zero, List.set_cons_succ])
    | (apply Flow.call
       · rfl
       · intro wx hS; go_simp; constructor <;> with_reducible rfl
       · intro wx hS; exact HR wx
       try simp only [Act.put, List.setIfInBounds_toArray, List.set_cons_zero, List.set_cons_succ])
    | (apply Flow.call
       · rfl
       · intro wx hS; go_simp; constructor <;> with_reducible rfl
       · intro wx hS; exact HRR wx
       try simp only [Act.put, List.setIfInBounds_toArray, List.set_cons_zero, List.set_cons_succ])
    | (apply Flow.value
       · rfl
       · (intro wx hS; skip; go_simp; with_reducible rfl)
       try simp only [Act.put, List.setIfInBounds_toArray, List.set_cons_zero, List.set_cons_succ]))
  refine Flow.done ?_
  intro w3 hS
  have K3 := Kp.mk hS
  obtain ⟨q0, q1, -⟩ := hS.1.two
  clear hS K HR
  go_wp2_with fail
  refine (HRR _).mono ?_
  rintro r w4 ⟨rfl, hb⟩
  have K4 : Kp (Blk w4 B2 (.cells #[.int .i64 a, .int .i64 b] 23) ∧ Own W0 t (ps0 a b) w4) := ⟨K3.out.1.keep hb, K3.out.2.2.more hb⟩
  clear hb K3 q0 q1 HRR
  go_wp2_with fail
  refine (awake_any _).mono ?_
  rintro r w5 ⟨rfl, hb⟩
  have K5 : Kp (Blk w5 B2 (.cells #[.int .i64 a, .int .i64 b] 23) ∧ Own W0 t (ps0 a b) w5) := ⟨K4.out.1.keep hb, K4.out.2.more hb⟩
  clear hb K4
  obtain ⟨q0, q1, -⟩ := K5.out.1.two
  obtain ⟨M, hM⟩ : ∃ M, M = w5.heap.size := ⟨_, rfl⟩
  have HME := Kp.mk hM
  obtain ⟨s0, hs0⟩ : ∃ s0, s0 = ps0 a b := ⟨_, rfl⟩
  have HS0 := Kp.mk hs0
  rw [← hs0] at HOK K5
  clear HB40
  clear hM hs0
  go_upto_region 10 with (first
    | (refine wpList_alloc_row rfl 40 rfl (prc Z).toArray 60 HINF.out ?_)
    | (refine wpList_store_row rfl 40 (.tmp 8) (.tmp 60) rfl w5.heap.size (prc (ps0 a b)).toArray rfl rfl 40 _ (Blk.newAt _ rfl) (info40s _) rfl (all_oneCell_toArray (prc_one _)) ?_
       rw [World.setRow_alloc_new, ← HS0.out]
       refine wpl_world (PL W0 t M s0 s0) ⟨K5.out.2.more (more (Below.refl _ _) _), Blk.newAt _ HME.out, by rw [HME.out]; exact Nat.ne_of_lt K5.out.2.blk.lt, by rw [HME.out]; exact K5.out.2.hb.size⟩ ?_
       rw [← HME.out]
       intro W6 hW6
       have K6 := Kp.mk hW6
       clear hW6))
  clear q0 q1 K5
  go_wp2_with fail
  go_loopw [63] (fun ct wr => ∃ (j : Nat) (s : PS), j ≤ len ∧ ct = .int .i64 j ∧ Kp (PL W0 t M s s wr)) (fun ct _ => len - (intOf ct).toNat)
  case atStart => exact ⟨0, s0, Nat.zero_le _, rfl, K6⟩
  case round =>
    obtain ⟨j, s, hj, rfl, K0⟩ := hrel
    by_cases hjl : j < len
    · have hjl' : (j : Int) < (len : Int) := by omega
      have HJL := Kp.mk hjl
      obtain ⟨eb, off, rfl, hb1, hc⟩ := HOPS.out.cells j (by rw [HOPS.out.eq]; exact hjl)
      have HOK2 : Kp (ol[j]'(by rw [HOPS.out.eq]; exact hjl)).Ok := ⟨HOPS.out.ok _ (List.getElem_mem _)⟩
      have HRG : Kp (wr.rangeAt eb (off + j * 7) (ocells (ol[j]'(by rw [HOPS.out.eq]; exact hjl)))) := ⟨rangeAt_below (K0.out.own.hb.mono (Nat.le_refl _)) (Nat.lt_of_lt_of_le hb1 U.out.2.2.size) (rangeAt_below U.out.2.2 hb1 hc)⟩
      clear hc hb1
      generalize ol[j]'(by rw [HOPS.out.eq]; exact hjl) = o at HRG HOK2
      obtain ⟨O, hO⟩ : ∃ O, O = wr.heap.size := ⟨_, rfl⟩
      have HOE := Kp.mk hO
      clear hO
      go_upto_region 13 with (first
        | (refine wpList_load_mid rfl 42 (.tmp 66) rfl eb (off + j * 7) rfl (ocells o) _ HRG.out Try.underlying42 rfl (by kernel_rfl) ?_)
        | (refine wpList_store_row rfl 42 (.tmp 10) (.tmp 67) rfl wr.heap.size (ocells o).toArray rfl rfl 42 _ (Blk.newAt _ rfl) (info42s o) rfl (all_oneCell_toArray (ocells_one o)) ?_
           rw [World.setRow_alloc_new]
           refine wpl_world (fun W => PL W0 t M s s W ∧ Blk W O o.obj) ⟨K0.out.keep (more (Below.refl _ _) _), Blk.newAt _ HOE.out⟩ ?_
           rw [← HOE.out]
           intro W7 hW7
           have K7 := Kp.mk hW7
           clear hW7))
      clear HRG
      by_cases h80 : 80 ≤ j
      · have h80' : (80 : Int) ≤ (j : Int) := by omega
        go_wp2_with fail
        go_ret
        exact ⟨rfl, U.out.2.2.trans (K7.out.1.own.hb.mono U.out.2.2.size)⟩
      · have h80' : (j : Int) < 80 := by omega
        obtain ⟨c0, c1, c2, c3, c4, c5, c6⟩ := ocells_at K7.out.2
        have HWAY : ∀ (P : Prop), (o.kind = 0 → P) → (o.kind ≠ 0 → P) → P := fun P h1 h2 => if h : o.kind = 0 then h1 h else h2 h
        by_cases hk : o.kind = 0
        case' pos =>
          rw [hk] at c0
          clear hk HWAY
          obtain ⟨q, hq⟩ : ∃ q, q = s.note o.now o.dest o.e o.s o.m o.u := ⟨_, rfl⟩
          obtain ⟨F, hF⟩ : ∃ F : Int, F = if noteB o.now o.dest o.e o.s o.m = true then 0 else 1 := ⟨_, rfl⟩
          have HF := Kp.mk (And.intro hF hq)
          have HRN := fun w1 => rnote_any s o.now o.dest o.e o.s o.m o.u w1
          unfold RNotePost at HRN
          rw [← hF, ← hq] at HRN
          clear hF hq
          go_wp2_with (refine wpList_load_row rfl 40 (.tmp 8) rfl M rfl 40 (prc s).toArray (0, 0) _ K7.out.1.m Try.underlying40 rfl (info40s _) ?_)
          refine (HRN _).mono ?_
          rintro r w8 ⟨rfl, hb⟩
          have K8 : Kp (PL W0 t M s s w8 ∧ Blk w8 O o.obj) := ⟨K7.out.1.keep hb, K7.out.2.keep hb⟩
          clear hb HRN K7 c0 c1 c2 c3 c4 c5 c6
          obtain ⟨N12, hN12⟩ : ∃ N12, N12 = w8.heap.size := ⟨_, rfl⟩
          have HN12 := Kp.mk hN12
          clear hN12
          go_upto_region 16 with (first
            | (refine wpList_alloc_row rfl 40 rfl (prc Z).toArray 60 HINF.out ?_)
            | (refine wpList_store_row rfl 40 (.tmp 12) (.tmp 85) rfl w8.heap.size (prc q).toArray rfl rfl 40 _ (Blk.newAt _ rfl) (info40s _) rfl (all_oneCell_toArray (prc_one _)) ?_
               rw [World.setRow_alloc_new]
               refine wpl_world (fun W => PL W0 t M s s W ∧ Blk W O o.obj ∧ Blk W N12 q.robj) ⟨K8.out.1.keep (more (Below.refl _ _) _), K8.out.2.old _, Blk.newAt _ HN12.out⟩ ?_
               rw [← HN12.out]
               intro W9 hW9
               have K9 := Kp.mk hW9
               clear hW9))
          clear K8
          refine wp_region_held_drew (S := fun w' => Blk w' O o.obj) (by kernel_rfl) (K9.out.2.1.draw) (fun hH => ?_)
          refine wpAnyH_take (i := 0) (oi := { dst := some 86, op := Go.Op.move (Go.Operand.tmp 6), type := 26, pos := "law.go:56", after := #[], guard := none }) (v := .pointer (some ⟨t, 0, none⟩)) rfl (by kernel_rfl) (by kernel_rfl) (by kernel_rfl) (fun _ _ _ h => h) (Or.inl ⟨by rfl, fun w hS => by obtain ⟨c0, c1, c2, c3, c4, c5, c6⟩ := ocells_at hS; go_simp⟩) hH ?_
          simp only [Act.put, List.setIfInBounds_toArray, List.set_cons_zero, List.set_cons_succ]
          refine wpAnyH_take (i := 1) (oi := { dst := some 87, op := Go.Op.fieldAddr 42 (Go.Operand.tmp 10) 1, type := 0, pos := "law.go:56", after := #[], guard := none }) (v := .pointer (some ⟨O, 1, none⟩)) rfl (by kernel_rfl) (by kernel_rfl) (by kernel_rfl) (fun _ _ _ h => h) (Or.inl ⟨by rfl, fun w hS => by obtain ⟨c0, c1, c2, c3, c4, c5, c6⟩ := ocells_at hS; go_simp⟩) hH ?_
          simp only [Act.put, List.setIfInBounds_toArray, List.set_cons_zero, List.set_cons_succ]
          refine wpAnyH_take (i := 2) (oi := { dst := some 88, op := Go.Op.load 2 (Go.Operand.tmp 87), type := 2, pos := "law.go:56", after := #[{ on := 1, ground := Go.Ground.data }], guard := none }) (v := .int .i64 o.now) rfl (by kernel_rfl) (by kernel_rfl) (by kernel_rfl) (fun _ _ _ h => h) (Or.inl ⟨by rfl, fun w hS => by obtain ⟨c0, c1, c2, c3, c4, c5, c6⟩ := ocells_at hS; go_simp⟩) hH ?_
          simp only [Act.put, List.setIfInBounds_toArray, List.set_cons_zero, List.set_cons_succ]
          refine wpAnyH_take (i := 3) (oi := { dst := some 89, op := Go.Op.fieldAddr 42 (Go.Operand.tmp 10) 2, type := 0, pos := "law.go:56", after := #[], guard := none }) (v := .pointer (some ⟨O, 2, none⟩)) rfl (by kernel_rfl) (by kernel_rfl) (by kernel_rfl) (fun _ _ _ h => h) (Or.inl ⟨by rfl, fun w hS => by obtain ⟨c0, c1, c2, c3, c4, c5, c6⟩ := ocells_at hS; go_simp⟩) hH ?_
          simp only [Act.put, List.setIfInBounds_toArray, List.set_cons_zero, List.set_cons_succ]
          refine wpAnyH_take (i := 4) (oi := { dst := some 90, op := Go.Op.load 3 (Go.Operand.tmp 89), type := 3, pos := "law.go:56", after := #[{ on := 3, ground := Go.Ground.data }], guard := none }) (v := .int .i64 o.dest) rfl (by kernel_rfl) (by kernel_rfl) (by kernel_rfl) (fun _ _ _ h => h) (Or.inl ⟨by rfl, fun w hS => by obtain ⟨c0, c1, c2, c3, c4, c5, c6⟩ := ocells_at hS; go_simp⟩) hH ?_
          simp only [Act.put, List.setIfInBounds_toArray, List.set_cons_zero, List.set_cons_succ]
          refine wpAnyH_take (i := 5) (oi := { dst := some 91, op := Go.Op.fieldAddr 42 (Go.Operand.tmp 10) 3, type := 0, pos := "law.go:56", after := #[], guard := none }) (v := .pointer (some ⟨O, 3, none⟩)) rfl (by kernel_rfl) (by kernel_rfl) (by kernel_rfl) (fun _ _ _ h => h) (Or.inl ⟨by rfl, fun w hS => by obtain ⟨c0, c1, c2, c3, c4, c5, c6⟩ := ocells_at hS; go_simp⟩) hH ?_
          simp only [Act.put, List.setIfInBounds_toArray, List.set_cons_zero, List.set_cons_succ]
          refine wpAnyH_take (i := 6) (oi := { dst := some 92, op := Go.Op.load 35 (Go.Operand.tmp 91), type := 35, pos := "law.go:56", after := #[{ on := 5, ground := Go.Ground.data }], guard := none }) (v := keyV o.e o.s o.m) rfl (by kernel_rfl) (by kernel_rfl) (by kernel_rfl) (fun _ _ _ h => h) (Or.inl ⟨by rfl, fun w hS => by obtain ⟨c0, c1, c2, c3, c4, c5, c6⟩ := ocells_at hS; go_simp⟩) hH ?_
          simp only [Act.put, List.setIfInBounds_toArray, List.set_cons_zero, List.set_cons_succ]
          refine wpAnyH_take (i := 8) (oi := { dst := some 94, op := Go.Op.fieldAddr 42 (Go.Operand.tmp 10) 4, type := 0, pos := "law.go:56", after := #[], guard := none }) (v := .pointer (some ⟨O, 6, none⟩)) rfl (by kernel_rfl) (by kernel_rfl) (by kernel_rfl) (fun _ _ _ h => h) (Or.inl ⟨by rfl, fun w hS => by obtain ⟨c0, c1, c2, c3, c4, c5, c6⟩ := ocells_at hS; go_simp⟩) hH ?_
          simp only [Act.put, List.setIfInBounds_toArray, List.set_cons_zero, List.set_cons_succ]
          refine wpAnyH_take (i := 9) (oi := { dst := some 95, op := Go.Op.load 4 (Go.Operand.tmp 94), type := 4, pos := "law.go:56", after := #[{ on := 8, ground := Go.Ground.data }], guard := none }) (v := .bool o.u) rfl (by kernel_rfl) (by kernel_rfl) (by kernel_rfl) (fun _ _ _ h => h) (Or.inl ⟨by rfl, fun w hS => by obtain ⟨c0, c1, c2, c3, c4, c5, c6⟩ := ocells_at hS; go_simp⟩) hH ?_
          simp only [Act.put, List.setIfInBounds_toArray, List.set_cons_zero, List.set_cons_succ]
          refine wpAnyH_take (i := 11) (oi := { dst := some 97, op := Go.Op.move (Go.Operand.tmp 11), type := 3, pos := "law.go:56", after := #[], guard := none }) (v := .int .i64 F) rfl (by kernel_rfl) (by kernel_rfl) (by kernel_rfl) (fun _ _ _ h => h) (Or.inl ⟨by rfl, fun w hS => by obtain ⟨c0, c1, c2, c3, c4, c5, c6⟩ := ocells_at hS; go_simp⟩) hH ?_
          simp only [Act.put, List.setIfInBounds_toArray, List.set_cons_zero, List.set_cons_succ]
          refine wpAnyH_ready (rs := [7]) (by kernel_rfl) (by simp) ?_
          refine AllReadyH.cons (o := { dst := some 93, op := Go.Op.call { callee := Go.Callee.value (Go.Operand.func 13), args := #[Go.Operand.tmp 92], argTypes := #[35] }, type := 46, pos := "law.go:56", after := #[{ on := 6, ground := Go.Ground.data }], guard := none }) rfl (fun K hK => ?_) AllReadyH.nil
          go_simp
          refine (kto_any o.e o.s o.m _).mono ?_
          rintro r w10 ⟨rfl, hb⟩
          have K10 : Kp (PL W0 t M s s w10 ∧ Blk w10 O o.obj ∧ Blk w10 N12 q.robj) := ⟨K9.out.1.drew.keep hb, K9.out.2.1.draw.keep hb, K9.out.2.2.draw.keep hb⟩
          clear hb
          refine hK.out _ _ (K10.out.2.1) (fun hHn => ?_)
          clear hK K hH
          have hH := hHn
          clear hHn
          try simp only [Act.put, List.setIfInBounds_toArray, List.set_cons_zero, List.set_cons_succ]
          refine wpAnyH_ready (rs := [10]) (by kernel_rfl) (by simp) ?_
          refine AllReadyH.cons (o := { dst := some 96, op := Go.Op.call { callee := Go.Callee.value (Go.Operand.func 12), args := #[Go.Operand.tmp 86, Go.Operand.tmp 88, Go.Operand.tmp 90, Go.Operand.tmp 93, Go.Operand.tmp 95], argTypes := #[26, 2, 3, 46, 4] }, type := 27, pos := "law.go:56", after := #[{ on := 0, ground := Go.Ground.data }, { on := 2, ground := Go.Ground.data }, { on := 4, ground := Go.Ground.data }, { on := 7, ground := Go.Ground.data }, { on := 9, ground := Go.Ground.data }, { on := 7, ground := Go.Ground.chain }], guard := none }) rfl (fun K hK => ?_) AllReadyH.nil
          go_simp
          refine (note_any s o.now o.dest o.e o.s o.m o.u t _ K10.out.1.own.blk).mono ?_
          rintro r w11 ⟨rfl, hT⟩
          rw [← HF.out.1]
          rw [← HF.out.2] at hT
          have K11 : Kp (PL W0 t M q s w11 ∧ Blk w11 O o.obj ∧ Blk w11 N12 q.robj) := ⟨K10.out.1.turn hT (by rw [HF.out.2]; exact K10.out.1.own.ok.note _ _ _ _ _ _), Blk_turn K10.out.2.1 K10.out.1.own.blk hT (by decide), Blk_turn K10.out.2.2 K10.out.1.own.blk hT (by decide)⟩
          clear hT
          refine hK.out _ _ (K11.out.2.1) (fun hHn => ?_)
          clear hK K hH
          have hH := hHn
          clear hHn
          try simp only [Act.put, List.setIfInBounds_toArray, List.set_cons_zero, List.set_cons_succ]
          refine wpAnyH_take (i := 12) (oi := { dst := some 98, op := Go.Op.binOp Go.BinOp.neq 3 (Go.Operand.tmp 96) (Go.Operand.tmp 97) 3, type := 4, pos := "law.go:56", after := #[{ on := 10, ground := Go.Ground.data }, { on := 11, ground := Go.Ground.data }], guard := none }) (v := .bool false) rfl (by kernel_rfl) (by kernel_rfl) (by kernel_rfl) (fun _ _ _ h => h) (Or.inl ⟨by rfl, fun w hS => by go_simp⟩) hH ?_
          simp only [Act.put, List.setIfInBounds_toArray, List.set_cons_zero, List.set_cons_succ]
          clear hH
          refine wpAnyH_done (by kernel_rfl) ?_ _
          clear K9 K10
          go_wp2_with (first
            | (refine wpList_load_row rfl 40 (.tmp 12) rfl N12 rfl 40 (prc q).toArray (0, 0) _ K11.out.2.2 Try.underlying40 rfl (info40s _) ?_)
            | (refine wpList_store_row rfl 40 (.tmp 8) (.tmp 99) rfl M (prc q).toArray rfl rfl 40 _ K11.out.1.m (info40s _) (by rw [List.size_toArray, List.size_toArray]; rfl) (all_oneCell_toArray (prc_one _)) ?_
               refine wpl_world (PL W0 t M q q) (K11.out.1.row q) ?_
               intro W12 hW12
               have KQ := Kp.mk hW12
               clear hW12))
          clear K11 HF HN12
        case' neg =>
          have hk' : (o.kind == 0) = false := by simpa using hk
          clear hk HWAY
          obtain ⟨q, hq⟩ : ∃ q, q = s.due o.now := ⟨_, rfl⟩
          have HQ := Kp.mk hq
          clear hq
          go_wp2_with fail
          refine (due_any s o.now t _ K7.out.1.own.blk K7.out.1.own.ok).mono ?_
          rintro r w8 ⟨v1, rfl, ho1, hT⟩
          rw [← HQ.out] at hT
          have K8 : Kp (PL W0 t M q s w8 ∧ Blk w8 O o.obj) := ⟨K7.out.1.turn hT (by rw [HQ.out]; exact K7.out.1.own.ok.due _), Blk_turn K7.out.2 K7.out.1.own.blk hT (by decide)⟩
          have HSO := Kp.mk K7.out.1.own.ok
          have O8 := Kp.mk ho1
          clear ho1 hT K7 c0 c1 c2 c3 c4 c5 c6
          obtain ⟨c0, c1, c2, c3, c4, c5, c6⟩ := ocells_at K8.out.2
          obtain ⟨a1, cp1, rfl, -⟩ := row_slice O8.out
          go_wp2_with (refine wpList_load_row rfl 40 (.tmp 8) rfl M rfl 40 (prc s).toArray (0, 0) _ K8.out.1.m Try.underlying40 rfl (info40s _) ?_)
          refine (rdue_any s o.now _ HSO.out).mono ?_
          rintro r w9 ⟨v2, rfl, ho2, hb⟩
          rw [← HQ.out]
          have K9 : Kp (PL W0 t M q s w9 ∧ Blk w9 O o.obj) := ⟨K8.out.1.keep hb, K8.out.2.keep hb⟩
          have O9 := Kp.mk (And.intro (ownsRow_below O8.out hb) ho2)
          clear hb ho2 K8 O8 c0 c1 c2 c3 c4 c5 c6
          obtain ⟨a2, cp2, rfl, -⟩ := row_slice O9.out.2
          have HL8 : Kp ((s.dueL o.now).length ≤ 8) := ⟨dueL_len s o.now⟩
          generalize s.dueL o.now = l at *
          generalize s.dueF o.now = fb
          obtain ⟨N17, hN17⟩ : ∃ N17, N17 = w9.heap.size := ⟨_, rfl⟩
          have HN17 := Kp.mk hN17
          clear hN17
          go_upto_region 21 with (first
            | (refine wpList_alloc_row rfl 40 rfl (prc Z).toArray 60 HINF.out ?_)
            | (refine wpList_store_row rfl 40 (.tmp 17) (.tmp 114) rfl w9.heap.size (prc q).toArray rfl rfl 40 _ (Blk.newAt _ rfl) (info40s _) rfl (all_oneCell_toArray (prc_one _)) ?_
               rw [World.setRow_alloc_new]
               have OA := Kp.mk (And.intro (ownsRow_below O9.out.1 (more (Below.refl _ _) q.robj)) (ownsRow_below O9.out.2 (more (Below.refl _ _) q.robj)))
               have KA : Kp (PL W0 t M q s (w9.alloc q.robj) ∧ Blk (w9.alloc q.robj) N17 q.robj) := ⟨K9.out.1.keep (more (Below.refl _ _) _), Blk.newAt _ HN17.out⟩
               rw [← HN17.out]
               revert OA KA
               generalize w9.alloc q.robj = W10
               intro OA KA))
          clear K9 O9
          cases fb
          all_goals
            go_wp2_with fail
            refine (same_any l _ _ _ _ _ OA.out.1 OA.out.2 HL8.out).mono ?_
            rintro r w11 ⟨rfl, m11, rfl⟩
            have K11 : Kp (PL W0 t M q s (W10.drewN m11) ∧ Blk (W10.drewN m11) N17 q.robj) := ⟨K11x KA.out.1 m11, KA.out.2⟩
            clear KA OA
            revert K11
            generalize W10.drewN m11 = w11
            intro K11
            go_wp2_with (first
              | (refine wpList_load_row rfl 40 (.tmp 17) rfl N17 rfl 40 (prc q).toArray (0, 0) _ K11.out.2 Try.underlying40 rfl (info40s _) ?_)
              | (refine wpList_store_row rfl 40 (.tmp 8) (.tmp 124) rfl M (prc q).toArray rfl rfl 40 _ K11.out.1.m (info40s _) (by rw [List.size_toArray, List.size_toArray]; rfl) (all_oneCell_toArray (prc_one _)) ?_
                 refine wpl_world (PL W0 t M q q) (K11.out.1.row q) ?_
                 intro W12 hW12
                 have KQ := Kp.mk hW12
                 clear hW12))
            clear K11 HQ HN17 HL8 HSO
        all_goals
          have HQO := Kp.mk KQ.out.own.ok
          clear U
          go_wp2_with fail
          go_loopw [18, 125] (fun v ct wx => ∃ d : Nat, d ≤ 8 ∧ ct = .int .i64 d ∧ Kp (wx.ownsRow W0.heap.size 3 1 v (those q (fun n => n.waits) d).length (nv (those q (fun n => n.waits) d))) ∧ Kp (PL W0 t M q q wx)) (fun _ ct _ => 8 - (intOf ct).toNat)
          case atStart => exact ⟨0, by omega, rfl, ⟨World.ownsRow_nil _ _ _ _⟩, KQ⟩
          case round =>
            obtain ⟨d, hd8, rfl, O0, D0⟩ := hrel
            by_cases hlt : d < 8
            · have hlt' : (d : Int) < 8 := by omega
              have p4 := rwaits_at D0.out.m hlt
              have HYN := Kp.mk (And.intro (those_yes (p := q) (q := fun n => n.waits) (i := d)) (those_no (p := q) (q := fun n => n.waits) (i := d)))
              have HL := Kp.mk (those_len q (fun n => n.waits) d)
              cases hw : (q.all d).waits with
              | false =>
                rw [hw] at p4
                have HD := Kp.mk (HYN.out.2 hw)
                clear hw HYN
                go_wp2_with fail
                exact ⟨⟨d + 1, by omega, by go_num, by rw [HD.out]; exact O0, D0⟩, by simp [intOf]; omega⟩
              | true =>
                rw [hw] at p4
                have HD := Kp.mk (HYN.out.1 hw)
                clear hw HYN
                obtain ⟨l, hl⟩ : ∃ l, l = those q (fun n => n.waits) d := ⟨_, rfl⟩
                rw [← hl] at O0 HD HL
                clear hl
                go_wp2_with (at_builtin; refine wpList_append_own _ rfl _ _ 48 rfl W0.heap.size 3 i0 (.int .i64 0) 1 8 Try.underlying48 hi hz0 hz1 hz2 rfl (by decide) _ l.length (nv l) rfl (O0.out.alloc _) ⟨_, 0, none⟩ 1 1 [.int .i64 d] rfl rfl ?c1 ?c2 ?c3 ?c4 ?c5 ?_)
                case c1 =>
                  intro j u hj
                  match j, hj with
                  | 0, hj => simp at hj; subst hj; simp [Addr.add]
                case c2 =>
                  intro u hu
                  simp at hu
                  subst hu
                  rfl
                case c3 => have := HL.out; unfold maxLen; omega
                case c4 => have := HL.out; omega
                case c5 => have := D0.out.own.hb.size; simp; omega
                · intro v' w3 hown' hgrow _
                  have HO3 : Kp (w3.ownsRow W0.heap.size 3 1 v' (l ++ [d]).length (nv (l ++ [d]))) := ⟨by simpa [nv] using hown'⟩
                  have H3 : Kp (PL W0 t M q q w3) := ⟨(D0.out.keep (more (Below.refl _ _) _)).grown (O0.out.alloc _) (Nat.le_refl _) hgrow⟩
                  clear hown' hgrow p4
                  go_wp2_with fail
                  exact ⟨⟨d + 1, by omega, by go_num, by rw [HD.out]; exact HO3, H3⟩, by simp [intOf]; omega⟩
            · obtain rfl : d = 8 := by omega
              have HL := Kp.mk (those_len q (fun n => n.waits) 8)
              go_wp2_with fail
              refine (next_any q t _ D0.out.own.blk HQO.out).mono ?_
              rintro r w20 ⟨rfl, hb⟩
              have K20 : Kp (PL W0 t M q q w20) := ⟨D0.out.keep hb⟩
              have O20 := Kp.mk (ownsRow_below O0.out hb)
              clear hb D0 O0
              go_wp2_with fail
              refine (waits_any q t _ K20.out.own.blk).mono ?_
              rintro r w21 ⟨v21, rfl, ho, hb⟩
              have K21 : Kp (PL W0 t M q q w21) := ⟨K20.out.keep hb⟩
              have O21 := Kp.mk (And.intro ho (ownsRow_below O20.out hb))
              clear hb ho K20 O20
              go_wp2_with fail
              refine (same_any (those q (fun n => n.waits) 8) _ _ _ _ _ O21.out.1 O21.out.2 HL.out).mono ?_
              rintro r w22 ⟨rfl, m22, rfl⟩
              have K22 : Kp (PL W0 t M q q (w21.drewN m22)) := ⟨K11x K21.out m22⟩
              clear K21 O21
              revert K22
              generalize w21.drewN m22 = w22
              intro K22
              go_wp2_with (refine BigFrame.wpList_want ?hw (fun K hK => wp_load_row 40 (.tmp 8) rfl M rfl 40 (prc q).toArray (0, 0) _ K22.out.m Try.underlying40 rfl (info40s _) (hK _ _ ?_)); case hw => rfl)
              refine (rnext_any q _ HQO.out).mono ?_
              rintro r w23 ⟨rfl, hb⟩
              have K23 : Kp (PL W0 t M q q w23) := ⟨K22.out.keep hb⟩
              clear hb K22
              go_wp2_with fail
              exact ⟨⟨j + 1, q, by omega, by go_num, K23⟩, by simp [intOf]; omega⟩
    · obtain rfl : j = len := by omega
      go_wp2_with fail
      go_ret
      exact ⟨rfl, U.out.2.2.trans (K0.out.own.hb.mono U.out.2.2.size)⟩
end Go.Proofs.Ytfnjfoconklhiaa
