/-
  The law SlateLasts, walked.
-/
import Derived.Test.YtgikedbnnlckjaaSlQ
namespace Go.Proofs.Ytgikedbnnlckjaa
open Go.RowKit

/-- The sectors behind j rounds of the law's own crash. -/
def crashJ (ls : List Int) (q : List (Nat × List Int)) (kk u j : Nat) : List Int := if j ≤ kk then settleL ls (q.take j) else crashL ls q kk u
theorem crashJ_zero (ls : List Int) (q : List (Nat × List Int)) (kk u : Nat) : crashJ ls q kk u 0 = ls := by unfold crashJ; rw [if_pos (Nat.zero_le _)]; rfl
theorem crashJ_full {ls : List Int} {q : List (Nat × List Int)} {kk u j : Nat} (hj : j < q.length) (h : j < kk) : crashJ ls q kk u (j + 1) = splice (crashJ ls q kk u j) (q[j].1 * 64) q[j].2 := by
  unfold crashJ
  rw [if_pos (by omega), if_pos (by omega), settleL_succ ls hj]
theorem crashJ_torn {ls : List Int} {q : List (Nat × List Int)} {kk u : Nat} (hj : kk < q.length) : crashJ ls q kk u (kk + 1) = splice (crashJ ls q kk u kk) (q[kk].1 * 64) (q[kk].2.take u) := by
  unfold crashJ
  rw [if_neg (by omega), if_pos (by omega)]
  unfold crashL
  rw [List.getElem?_eq_getElem hj]
theorem crashJ_rest {ls : List Int} {q : List (Nat × List Int)} {kk u j : Nat} (h : kk < j) : crashJ ls q kk u (j + 1) = crashJ ls q kk u j := by
  unfold crashJ
  rw [if_neg (by omega), if_neg (by omega)]
theorem crashJ_end {ls : List Int} {q : List (Nat × List Int)} {kk u : Nat} (h : kk ≤ q.length) : crashJ ls q kk u q.length = crashL ls q kk u := by
  unfold crashJ
  split
  · have e : kk = q.length := by omega
    subst e
    unfold crashL
    rw [List.getElem?_eq_none (Nat.le_refl _)]
  · rfl
theorem Turn.cellsN {w : World} {b o : Nat} {t : TypeId} {k : IntKind} {l z : List Int} (h : Row w b t k l) (hl : o + z.length ≤ l.length) : Turn b (.cells (kv k (splice l o z)).toArray t) w (w.setCells b o (kv k z)) :=
  ⟨(setCells_rest _ _ _).1, (setCells_rest _ _ _).2.1, (setCells_rest _ _ _).2.2, by rw [setCells_size]; exact Nat.le_refl _, Row.setCells z o w l hl h, fun j _ hne => setCells_heap hne _ _ _⟩
set_option maxRecDepth 100000 in
theorem run_slice30u (b off u : Nat) (hu : u ≤ 64) (w : World) : (Instr.sliceAt 30 (.pointer (some ⟨b, off, none⟩)) none (some (.int .i64 u)) none).run Try.prog w = .ok (.slice (some ⟨b, off, none⟩) u 64) w := by
  have hu' : (u : Int) ≤ 64 := by omega
  go_simp
theorem exec_slice30u {o : Oper} {a : Act} {w : World} {x y : Operand} {b off u : Nat} (hu : u ≤ 64) (ho : o.op = .slice 30 x none (some y) none) (hx : a.eval x = .pointer (some ⟨b, off, none⟩)) (hy : a.eval y = .int .i64 u) : (execOp a.eval o).run Try.prog w = .ok (.value (.slice (some ⟨b, off, none⟩) u 64)) w := by
  unfold execOp
  simp only [ho, hx, hy, Option.map_none, Option.map_some, Sem.run_bind, run_slice30u b off u hu w, Result.andThen_ok, Sem.run_pure]
theorem exec_load_row {P : Program} {o : Oper} {a : Act} {w : World} {ty : TypeId} {x : Operand} {g : Nat} {t : TypeId} {cs : Array Value} {fr : Nat × Nat} {d : TypeDesc} (ho : o.op = .load ty x) (hx : a.eval x = .pointer (some ⟨g, 0, none⟩)) (hg : w.heap[g]? = some (.cells cs t fr))
    (hu : P.underlying ty = some d) (hd : (match d with | .struct _ | .array _ _ => true | _ => false) = true) (hi : (P.info? ty).map (·.size) = some cs.size) : (execOp a.eval o).run P w = .ok (.value (.agg cs)) w := by
  unfold execOp
  simp only [ho, hx, Instr.loadAt, Instr.sureAddr, Sem.run_bind, Sem.run_pure, Result.andThen_ok, run_loadVar_row w g t ty cs fr d hg hu hd hi]
theorem neg35 (p q : List Int) (x y : Operand) (w : World) : (eqGuard .neq 35 x y (sec p) (sec q)).run Try.prog w = .ok () w := by kernel_rfl
theorem neq35 {p : List Int} (h : p.length = 64) (hb : Bytes p) (w : World) : (binOp .neq 35 (sec p) (sec p)).run Try.prog w = .ok (.bool false) w := by
  rw [run_neq_struct, eqIn35 h hb w]
  rfl
theorem exec_neq35 {o : Oper} {a : Act} {w : World} {x y : Operand} {p : List Int} (h : p.length = 64) (hb : Bytes p) (ho : o.op = .binOp .neq 35 x y 35) (hx : a.eval x = sec p) (hy : a.eval y = sec p) : (execOp a.eval o).run Try.prog w = .ok (.value (.bool false)) w := by
  unfold execOp
  simp only [ho, hx, hy, Sem.run_bind, neg35, neq35 h hb, Result.andThen_ok, Sem.run_pure]

set_option maxRecDepth 100000 in
set_option maxHeartbeats 8000000 in
theorem slateLasts_walk (a : Option Addr) (len cap : Nat) (ol : List OpV) (w : World) (ho : IsOps w a len ol) : Calls Try.prog 4 #[.slice a len cap] w fun e w' => e = .returned (.bool true) ∧ Below w.heap.size w w' := by
  have HO := Kp.mk ho
  have hmax := ho.max
  unfold maxLen at hmax
  have hnew := new_any 5 w (by decide) (by decide)
  obtain ⟨i0, hi32, hz0, hz1, hz2⟩ := info_parts info32
  clear ho
  go_enter Try.func4, Try.ntmps4
  go_wp2_with fail
  refine hnew.mono ?_
  rintro r w1 ⟨rfl, h1, hb1⟩
  have H1 := Kp.mk h1
  have HB1 := Kp.mk hb1
  clear h1 hb1 hnew
  go_wp2_with fail
  refine (awake_any _).mono ?_
  rintro r w2 ⟨rfl, hb2⟩
  have H2 : Kp (SlIs w2 w.heap.size (.slice none 0 0) (newS 5)) := ⟨H1.out.keep hb2⟩
  have HB2 : Kp (Below w.heap.size w w2) := ⟨HB1.out.trans (hb2.mono HB1.out.size)⟩
  clear hb2 H1 HB1
  obtain ⟨NB, hNB⟩ : ∃ NB, NB = w2.heap.size := ⟨_, rfl⟩
  go_wp2_with (refine wpList_alloc_row rfl 41 rfl _ _ infoz41 ?_; refine wpl_world (fun w3 => Row w3 w2.heap.size 41 .u8 (List.replicate 320 0) ∧ Below w2.heap.size w2 w3) ⟨Blk.new _ _, more (Below.refl _ _) _⟩ ?_; rintro W3 ⟨h1, h2⟩; have K1 := Kp.mk h1; have K2 := Kp.mk h2; clear h1 h2)
  have HL : Kp (LInv w.heap.size NB w.heap.size w W3 (.slice none 0 0) (.slice none 0 0) (newS 5) [] 0) := ⟨by
    refine ⟨H2.out.keep K2.out, by rw [hNB]; exact K1.out, World.ownsRow_nil _ _ _ _, rfl, rfl, (fun o ho => by cases ho), by simp [newS], by simp, Nat.le_refl _, by rw [hNB]; exact HB2.out.size, HB2.out.trans (K2.out.mono HB2.out.size)⟩⟩
  rw [← hNB]
  clear hNB K1 K2 H2 HB2
  obtain ⟨B, hB⟩ : ∃ B, B = w.heap.size := ⟨_, rfl⟩
  rw [← hB] at HL ⊢
  have HBe := Kp.mk hB
  clear hB
  go_loopw [6, 30] (fun v6 i wr => ∃ (k : Nat) (s : SlS) (v : Value) (ll : List OpV), k ≤ len ∧ k ≤ 60 ∧ i = .int .i64 k ∧ LInv B NB B w wr v v6 s ll k) (fun _ i _ => len - (intOf i).toNat)
  case atStart => exact ⟨0, _, _, _, Nat.zero_le _, by omega, rfl, HL.out⟩
  case round =>
    obtain ⟨v6, hv6⟩ : ∃ v6, v6 = u6 := ⟨_, rfl⟩
    rw [← hv6] at hrel ⊢
    clear hv6
    obtain ⟨k, s, v, ll, hk, hk60, rfl, hi⟩ := hrel
    have HI := Kp.mk hi
    clear hi HL
    by_cases hlt : k < len
    · by_cases h60 : k < 60
      · have hol : k < ol.length := by rw [HO.out.eq]; exact hlt
        obtain ⟨o, hoe⟩ : ∃ o, o = ol[k] := ⟨_, rfl⟩
        have HOk : Kp o.Ok := ⟨by rw [hoe]; exact HO.out.ok _ (List.getElem_mem hol)⟩
        obtain ⟨ab, off, rfl, hab, hrg⟩ := HO.out.cells k hol
        rw [← hoe] at hrg
        have HRG : Kp (wr.rangeAt ab (off + k * 67) (ocells o)) := ⟨rangeAt_below HI.out.below (by rw [HBe.out]; exact hab) hrg⟩
        have H67 : Kp ((ocells o).length = 67) := ⟨ocells_len HOk.out.l⟩
        clear hrg hoe hol
        have hlt' : (k : Int) < (len : Int) := by omega
        have h60' : ¬ (60 : Int) ≤ (k : Int) := by omega
        obtain ⟨m, hm, hm5⟩ : ∃ m : Nat, mod5 o.at_ = (m : Int) ∧ m < 5 := by
          have := mod5_lt o.at_
          exact ⟨(mod5 o.at_).toNat, by omega, by omega⟩
        have HM5 := Kp.mk hm5
        obtain ⟨o2, ho2⟩ : ∃ o2 : OpV, o2 = { o with at_ := (m : Int) } := ⟨_, rfl⟩
        have HO2E := Kp.mk ho2
        have HOk2 : Kp (o2.to.length = 64) := ⟨by rw [ho2]; exact HOk.out.l⟩
        have HOb2 : Kp (Bytes o2.to) := ⟨by rw [ho2]; exact HOk.out.b⟩
        have HOa2 : Kp (o2.at_ = (m : Int)) := ⟨by rw [ho2]⟩
        have H67b : Kp ((ocells o2).length = 67) := ⟨ocells_len HOk2.out⟩
        have HI30 : Kp ((Try.prog.info? 30).map (·.size) = some (kv .u8 o2.to).length) := ⟨by rw [List.length_map, HOk2.out]; exact info30s⟩
        clear ho2
        have HM64 : Kp (m ≤ 64) := ⟨by omega⟩
        have HST : Kp (s.st + 1 ≤ 1000000) := ⟨by have := HI.out.st; omega⟩
        have HLL : Kp (ll.length ≤ 60) := ⟨by have := HI.out.lk; omega⟩
        have HQL : Kp (s.q.length ≤ 1000000) := ⟨by rw [HI.out.ql]; have := HI.out.lk; omega⟩
        unfold mod5 at hm
        have hw : IntKind.u64.wrap o.at_ = o.at_ % 18446744073709551616 := rfl
        by_cases k0 : o.kind = 0
        · go_wp2_with (first
            | (refine wpList_load_mid rfl 32 (.tmp 33) rfl ab (off + k * 67) rfl (ocells o) _ HRG.out Try.underlying32 rfl (by rw [H67.out]; exact info32s) ?_)
            | (refine wpList_alloc_row rfl 32 rfl _ _ infoz32 ?_; refine wpl_world (w := wr.alloc (.cells z32.toArray 32)) (fun w3 => Blk w3 wr.heap.size (.cells z32.toArray 32) ∧ Below wr.heap.size wr w3) ⟨Blk.new _ _, more (Below.refl _ _) _⟩ ?_; rintro W4 ⟨h1, h2⟩; have K1 := Kp.mk h1; have K2 := Kp.mk h2; clear h1 h2)
            | (refine wpList_store_row rfl 32 (.tmp 8) (.tmp 34) rfl wr.heap.size (ocells o).toArray rfl rfl 32 _ K1.out (by rw [List.size_toArray, H67.out]; exact info32s) (by rw [List.size_toArray, List.size_toArray, H67.out, z32_len]) (all_oneCell_toArray (ocells_one o)) ?_; refine wpl_world (fun w3 => Blk w3 wr.heap.size (.cells (ocells o).toArray 32) ∧ Below wr.heap.size wr w3) ⟨Blk.setRow K1.out _, Below.row K2.out (Nat.le_refl _) _⟩ ?_; rintro W5 ⟨h1, h2⟩; have K3 := Kp.mk h1; have K4 := Kp.mk h2; have c0 : W5.cell? ⟨wr.heap.size, 0, none⟩ = some (.int .i64 o.kind) := (by rw [h1.cell 0]; rfl); have c1 : W5.cell? ⟨wr.heap.size, 1, none⟩ = some (.int .i64 o.at_) := (by rw [h1.cell 1]; rfl); have f1 := Blk.frozen h1 1; clear h1 h2 K1 K2)
            | (refine wpl_world (w := W5.setCell ⟨wr.heap.size, 1, none⟩ (.int .i64 (m : Nat))) (fun w3 => Blk w3 wr.heap.size (.cells (ocells o2).toArray 32) ∧ Below wr.heap.size wr w3) ⟨by have h := Blk.set K3.out 1 (.int .i64 (m : Nat)); rw [ocells_set, ← HO2E.out] at h; exact h, K4.out.setCell (p := ⟨wr.heap.size, 1, none⟩) (Nat.le_refl _) _⟩ ?_; rintro W6 ⟨h1, h2⟩; have HO2 := Kp.mk h1; have HB6 := Kp.mk h2; have HI6 := Kp.mk (HI.out.keep h2); clear c0 c1 f1 K3 K4; have c0 : W6.cell? ⟨wr.heap.size, 0, none⟩ = some (.int .i64 o.kind) := (by rw [h1.cell 0, HO2E.out]; rfl); have c1 : W6.cell? ⟨wr.heap.size, 1, none⟩ = some (.int .i64 (m : Nat)) := (by rw [h1.cell 1, HO2E.out]; rfl); have c2 : W6.cell? ⟨wr.heap.size, 2, none⟩ = some (.int .i64 o.n) := (by rw [h1.cell 2, HO2E.out]; rfl); clear h1 h2)
            | (refine wpList_load_mid rfl 30 (.tmp 50) rfl wr.heap.size 3 rfl (kv .u8 o2.to) _ (ocells_mid HO2.out) Try.underlying30 rfl HI30.out ?_))
          refine (write_any B v s (m : Nat) o2.to _ HI6.out.is HOk2.out HOb2.out HST.out HQL.out).mono ?_
          rintro r w7 ⟨v', rfl, h7⟩
          have HS7 := Kp.mk h7
          have HO7 : Kp (Blk w7 wr.heap.size (.cells (ocells o2).toArray 32)) := ⟨h7.blkK HI6.out.is HO2.out⟩
          have HOW : Kp (w7.ownsRow B 32 67 v6 ll.length (lcells ll)) := ⟨h7.ownK HI6.out.is HI6.out.own⟩
          have HN7 : Kp (B ≤ w7.heap.size) := ⟨by have := (h7.rowK HI6.out.is HI6.out.row).lt; have := HI6.out.nB; omega⟩
          clear h7 c0 c1 c2
          by_cases he : writeE s (m : Nat) = 0
          · have HE := Kp.mk he
            rw [he]
            clear he
            go_wp2_with (first
              | (refine wpList_load_row rfl 32 (.tmp 8) rfl wr.heap.size rfl 32 _ (0, 0) _ HO7.out Try.underlying32 rfl (by rw [List.size_toArray, H67b.out]; exact info32s) ?_)
              | (refine wpList_buildSlice_one rfl 22 1 (.tmp 55) rfl (.agg (ocells o2).toArray) rfl (.slice (some ⟨w7.heap.size, 0, none⟩) 1 1) (w7.alloc (.cells (ocells o2).toArray 32)) (build22 (o := o2) HOk2.out w7) ?_)
              | (refine wpList_append_own2 rfl (.tmp 54) (.tmp 56) 22 rfl B 32 i0 (.agg z32.toArray) 67 88 Try.underlying22 hi32 hz0 hz1 hz2 rfl (by decide) v6 ll.length (lcells ll) rfl (ownsRow_below HOW.out (more (Below.refl _ _) _)) ⟨w7.heap.size, 0, none⟩ 1 1 (ocells o2) rfl ?d0 ?d1 (ocells_one _) ?d2 ?d3 ?d4 ?_
                 case d0 => rw [H67b.out]
                 case d1 => exact World.news_of_block (Blk.new w7 (.cells (ocells o2).toArray 32))
                 case d2 => have := HLL.out; unfold maxLen; omega
                 case d3 => have := HLL.out; omega
                 case d4 => have := HN7.out; simp; omega
                 intro v6' w9 ho9 hg9 hv9
                 have HOW9 := Kp.mk ho9
                 have HG9 := Kp.mk hg9
                 clear ho9 hg9 hv9))
            go_roundw
            case rel => exact ⟨k + 1, writeS s (m : Nat) o2.to, v', ll ++ [o2], by omega, by omega, by first | rfl | go_num, LInv.wrote HI6.out HS7.out HE.out ⟨HOa2.out, rfl⟩ HOk2.out HOb2.out HM5.out (more (Below.refl _ _) _) HOW9.out HG9.out⟩
            case measure => simp [intOf] <;> omega
          · have HE := Kp.mk he
            obtain ⟨e, hee⟩ : ∃ e, e = writeE s (m : Nat) := ⟨_, rfl⟩
            rw [← hee] at he ⊢
            have he0 : (e == 0) = false := by simp [he]
            clear he hee
            go_wp2_with fail
            go_roundw
            case rel => exact ⟨k + 1, writeS s (m : Nat) o2.to, v', ll, by omega, by omega, by first | rfl | go_num, LInv.dev HI6.out HS7.out (writeS_no HE.out).1 (writeS_no HE.out).2.1 (writeS_no HE.out).2.2.1 (writeS_no HE.out).2.2.2⟩
            case measure => simp [intOf] <;> omega
        · by_cases k1 : o.kind = 1
          · go_wp2_with (first
              | (refine wpList_load_mid rfl 32 (.tmp 33) rfl ab (off + k * 67) rfl (ocells o) _ HRG.out Try.underlying32 rfl (by rw [H67.out]; exact info32s) ?_)
              | (refine wpList_alloc_row rfl 32 rfl _ _ infoz32 ?_; refine wpl_world (w := wr.alloc (.cells z32.toArray 32)) (fun w3 => Blk w3 wr.heap.size (.cells z32.toArray 32) ∧ Below wr.heap.size wr w3) ⟨Blk.new _ _, more (Below.refl _ _) _⟩ ?_; rintro W4 ⟨h1, h2⟩; have K1 := Kp.mk h1; have K2 := Kp.mk h2; clear h1 h2)
              | (refine wpList_store_row rfl 32 (.tmp 8) (.tmp 34) rfl wr.heap.size (ocells o).toArray rfl rfl 32 _ K1.out (by rw [List.size_toArray, H67.out]; exact info32s) (by rw [List.size_toArray, List.size_toArray, H67.out, z32_len]) (all_oneCell_toArray (ocells_one o)) ?_; refine wpl_world (fun w3 => Blk w3 wr.heap.size (.cells (ocells o).toArray 32) ∧ Below wr.heap.size wr w3) ⟨Blk.setRow K1.out _, Below.row K2.out (Nat.le_refl _) _⟩ ?_; rintro W5 ⟨h1, h2⟩; have K3 := Kp.mk h1; have K4 := Kp.mk h2; have c0 : W5.cell? ⟨wr.heap.size, 0, none⟩ = some (.int .i64 o.kind) := (by rw [h1.cell 0]; rfl); have c1 : W5.cell? ⟨wr.heap.size, 1, none⟩ = some (.int .i64 o.at_) := (by rw [h1.cell 1]; rfl); have f1 := Blk.frozen h1 1; clear h1 h2 K1 K2)
              | (refine wpl_world (w := W5.setCell ⟨wr.heap.size, 1, none⟩ (.int .i64 (m : Nat))) (fun w3 => Blk w3 wr.heap.size (.cells (ocells o2).toArray 32) ∧ Below wr.heap.size wr w3) ⟨by have h := Blk.set K3.out 1 (.int .i64 (m : Nat)); rw [ocells_set, ← HO2E.out] at h; exact h, K4.out.setCell (p := ⟨wr.heap.size, 1, none⟩) (Nat.le_refl _) _⟩ ?_; rintro W6 ⟨h1, h2⟩; have HO2 := Kp.mk h1; have HB6 := Kp.mk h2; have HI6 := Kp.mk (HI.out.keep h2); clear c0 c1 f1 K3 K4; have c0 : W6.cell? ⟨wr.heap.size, 0, none⟩ = some (.int .i64 o.kind) := (by rw [h1.cell 0, HO2E.out]; rfl); have c1 : W6.cell? ⟨wr.heap.size, 1, none⟩ = some (.int .i64 (m : Nat)) := (by rw [h1.cell 1, HO2E.out]; rfl); have c2 : W6.cell? ⟨wr.heap.size, 2, none⟩ = some (.int .i64 o.n) := (by rw [h1.cell 2, HO2E.out]; rfl); clear h1 h2))
            refine (flush_any B v s _ HI6.out.is HST.out HQL.out).mono ?_
            rintro r w7 ⟨v', rfl, h7⟩
            have HS7 := Kp.mk h7
            clear h7 c0 c1 c2
            by_cases he : flushE s = 0
            · have HFE := Kp.mk (flushE_zero he)
              have HM7 : Kp (LMid B NB B w w7 v' v6 (flushS s) ll s.ls) := ⟨HI6.out.mid HS7.out⟩
              rw [he]
              obtain ⟨a6, c6, hv6⟩ := HI6.out.slice
              obtain ⟨ln, hln⟩ : ∃ ln, ln = ll.length := ⟨_, rfl⟩
              rw [← hln] at hv6
              subst hv6
              have HLN := Kp.mk hln
              have HLNm : Kp (ln ≤ 60) := ⟨by rw [hln]; exact HLL.out⟩
              have hln60 : ln ≤ 60 := HLNm.out
              clear he hln
              obtain ⟨wo, rfl⟩ : ∃ wo : World, wo = wr := ⟨_, rfl⟩
              go_wp2_with fail
              go_loopw [65] (fun i wq => ∃ j : Nat, j ≤ ln ∧ i = .int .i64 j ∧ LMid B NB B w wq v' (.slice a6 ln c6) (flushS s) ll (settleL s.ls (s.q.take j))) (fun i _ => ln - (intOf i).toNat)
              case atStart => exact ⟨0, Nat.zero_le _, rfl, HM7.out⟩
              case round =>
                obtain ⟨j, hj, rfl, hm7⟩ := hrel
                have HM := Kp.mk hm7
                clear hm7
                by_cases hjl : j < ln
                · obtain ⟨x, hx⟩ : ∃ x, x = ll[j]'(by rw [← HLN.out]; exact hjl) := ⟨_, rfl⟩
                  obtain ⟨hx1, hx2, hx3, hx4⟩ := HM.out.oo x (by rw [hx]; exact List.getElem_mem _)
                  obtain ⟨lb, cap2, e, hBl, hlb, hr⟩ := own_at HM.out.own (fun o ho => (HM.out.oo o ho).1) (i := j) (by rw [← HLN.out]; exact hjl)
                  rw [← hx] at hr
                  have HRX := Kp.mk hr
                  have HXl := Kp.mk hx1
                  have HXb := Kp.mk hx2
                  simp only [Value.slice.injEq] at e
                  obtain ⟨rfl, -, -⟩ := e
                  obtain ⟨xm, hxm⟩ : ∃ xm : Nat, x.at_ = (xm : Int) := ⟨x.at_.toNat, by omega⟩
                  have hxm5 : (xm : Int) < 5 := by omega
                  have HXM : Kp (xm < 5) := ⟨by omega⟩
                  have HXE := Kp.mk hxm
                  have HQJ : Kp (∃ h : j < s.q.length, s.q[j] = (xm, x.to)) := ⟨⟨by rw [HI.out.ql, ← HLN.out]; exact hjl, by
                    have : s.q[j]? = some (xm, x.to) := by
                      rw [HI.out.q, List.getElem?_map, List.getElem?_eq_getElem (by rw [← HLN.out]; exact hjl), ← hx, Option.map_some, HXE.out]
                      rfl
                    exact (List.getElem?_eq_some_iff.1 this).2⟩⟩
                  have HX67 : Kp ((ocells x).length = 67) := ⟨ocells_len hx1⟩
                  have HXI30 : Kp ((Try.prog.info? 30).map (·.size) = some (kv .u8 x.to).length) := ⟨by rw [List.length_map, HXl.out]; exact info30s⟩
                  have HXI35 : Kp ((Try.prog.info? 35).map (·.size) = some (kv .u8 x.to).toArray.size) := ⟨cells35 HXl.out⟩
                  have hjl' : (j : Int) < (ln : Int) := by omega
                  clear hx hx1 hx2 hx3 hx4 hBl hr hxm
                  go_wp2_with (first
                    | (refine wpList_load_mid rfl 32 (.tmp 67) rfl lb (j * 67) rfl (ocells x) _ HRX.out Try.underlying32 rfl (by rw [HX67.out]; exact info32s) ?_)
                    | (refine wpList_alloc_row rfl 32 rfl _ _ infoz32 ?_; refine wpl_world (w := wr.alloc (.cells z32.toArray 32)) (fun w3 => Blk w3 wr.heap.size (.cells z32.toArray 32) ∧ Below wr.heap.size wr w3) ⟨Blk.new _ _, more (Below.refl _ _) _⟩ ?_; rintro W4 ⟨h1, h2⟩; have K1 := Kp.mk h1; have K2 := Kp.mk h2; clear h1 h2)
                    | (refine wpList_store_row rfl 32 (.tmp 10) (.tmp 68) rfl wr.heap.size (ocells x).toArray rfl rfl 32 _ K1.out (by rw [List.size_toArray, HX67.out]; exact info32s) (by rw [List.size_toArray, List.size_toArray, HX67.out, z32_len]) (all_oneCell_toArray (ocells_one x)) ?_; refine wpl_world (fun w3 => Blk w3 wr.heap.size (.cells (ocells x).toArray 32) ∧ Below wr.heap.size wr w3) ⟨Blk.setRow K1.out _, Below.row K2.out (Nat.le_refl _) _⟩ ?_; rintro V ⟨h1, h2⟩; have E2 := Kp.mk h1; have HBV := Kp.mk h2; have E1 := Kp.mk (HM.out.keep h2); have c1 : V.cell? ⟨wr.heap.size, 1, none⟩ = some (.int .i64 (xm : Nat)) := (by rw [h1.cell 1, ← HXE.out]; rfl); clear h1 h2 K1 K2)
                    | (refine wpList_load_mid rfl 30 (.tmp 71) rfl wr.heap.size 3 rfl (kv .u8 x.to) _ (ocells_mid (o := x) E2.out) Try.underlying30 rfl HXI30.out ?_)
                    | (refine wpList_store_mid rfl 35 (.tmp 73) (.tmp 72) rfl NB (xm * 64) (kv .u8 x.to).toArray rfl rfl (E1.out.row.there (by rw [kv_size, HXl.out, E1.out.l5]; have := HXM.out; omega)) HXI35.out (kv_all _ _) ?_; refine wpl_world (fun w3 => Turn NB (.cells (kv .u8 (splice (settleL s.ls (s.q.take j)) (xm * 64) x.to)).toArray 41) V w3) (Turn.cellsN E1.out.row (by rw [HXl.out, E1.out.l5]; have := HXM.out; omega)) ?_; intro V2 h2; have E3 := Kp.mk h2; clear h2))
                  go_roundw
                  case rel =>
                    obtain ⟨hq1, hq2⟩ := HQJ.out
                    refine ⟨j + 1, by omega, by first | rfl | go_num, ?_⟩
                    have e : settleL s.ls (s.q.take (j + 1)) = splice (settleL s.ls (s.q.take j)) (xm * 64) x.to := by rw [settleL_succ s.ls hq1, hq2]
                    rw [e]
                    exact E1.out.turn E3.out (by rw [length_splice _ _ _ (by rw [HXl.out, E1.out.l5]; have := HXM.out; omega)]; exact E1.out.l5)
                  case measure => simp [intOf] <;> omega
                · obtain rfl : j = ln := by omega
                  have HEND : Kp (LInv B NB B w wr v' (.slice none 0 0) (flushS s) [] (k + 1)) := ⟨by
                    refine HM.out.ends ?_ ?_ ?_ ?_
                    · rw [HFE.out, List.take_of_length_le (by rw [HI.out.ql, ← HLN.out]; exact Nat.le_refl _)]
                    · rw [HFE.out]; exact (stepS_q s).2.2.trans HI.out.n5
                    · rw [HFE.out]
                    · rw [HFE.out]; have := stepS_more s; have := HI.out.st; simp; omega⟩
                  go_wp2_with fail
                  go_roundw
                  case rel => exact ⟨k + 1, flushS s, v', [], by omega, by omega, by first | rfl | go_num, HEND.out⟩
                  case measure => simp [intOf] <;> omega
            · have HE := Kp.mk he
              obtain ⟨e, hee⟩ : ∃ e, e = flushE s := ⟨_, rfl⟩
              rw [← hee] at he ⊢
              have he0 : (e == 0) = false := by simp [he]
              clear he hee
              go_wp2_with fail
              go_roundw
              case rel => exact ⟨k + 1, flushS s, v', ll, by omega, by omega, by first | rfl | go_num, LInv.dev HI6.out HS7.out (flushS_no HE.out).1 (flushS_no HE.out).2.1 (flushS_no HE.out).2.2.1 (flushS_no HE.out).2.2.2⟩
              case measure => simp [intOf] <;> omega
          · by_cases k2 : o.kind = 2
            · go_wp2_with (first
                | (refine wpList_load_mid rfl 32 (.tmp 33) rfl ab (off + k * 67) rfl (ocells o) _ HRG.out Try.underlying32 rfl (by rw [H67.out]; exact info32s) ?_)
                | (refine wpList_alloc_row rfl 32 rfl _ _ infoz32 ?_; refine wpl_world (w := wr.alloc (.cells z32.toArray 32)) (fun w3 => Blk w3 wr.heap.size (.cells z32.toArray 32) ∧ Below wr.heap.size wr w3) ⟨Blk.new _ _, more (Below.refl _ _) _⟩ ?_; rintro W4 ⟨h1, h2⟩; have K1 := Kp.mk h1; have K2 := Kp.mk h2; clear h1 h2)
                | (refine wpList_store_row rfl 32 (.tmp 8) (.tmp 34) rfl wr.heap.size (ocells o).toArray rfl rfl 32 _ K1.out (by rw [List.size_toArray, H67.out]; exact info32s) (by rw [List.size_toArray, List.size_toArray, H67.out, z32_len]) (all_oneCell_toArray (ocells_one o)) ?_; refine wpl_world (fun w3 => Blk w3 wr.heap.size (.cells (ocells o).toArray 32) ∧ Below wr.heap.size wr w3) ⟨Blk.setRow K1.out _, Below.row K2.out (Nat.le_refl _) _⟩ ?_; rintro W5 ⟨h1, h2⟩; have K3 := Kp.mk h1; have K4 := Kp.mk h2; have c0 : W5.cell? ⟨wr.heap.size, 0, none⟩ = some (.int .i64 o.kind) := (by rw [h1.cell 0]; rfl); have c1 : W5.cell? ⟨wr.heap.size, 1, none⟩ = some (.int .i64 o.at_) := (by rw [h1.cell 1]; rfl); have f1 := Blk.frozen h1 1; clear h1 h2 K1 K2)
                | (refine wpl_world (w := W5.setCell ⟨wr.heap.size, 1, none⟩ (.int .i64 (m : Nat))) (fun w3 => Blk w3 wr.heap.size (.cells (ocells o2).toArray 32) ∧ Below wr.heap.size wr w3) ⟨by have h := Blk.set K3.out 1 (.int .i64 (m : Nat)); rw [ocells_set, ← HO2E.out] at h; exact h, K4.out.setCell (p := ⟨wr.heap.size, 1, none⟩) (Nat.le_refl _) _⟩ ?_; rintro W6 ⟨h1, h2⟩; have HO2 := Kp.mk h1; have HB6 := Kp.mk h2; have HI6 := Kp.mk (HI.out.keep h2); clear c0 c1 f1 K3 K4; have c0 : W6.cell? ⟨wr.heap.size, 0, none⟩ = some (.int .i64 o.kind) := (by rw [h1.cell 0, HO2E.out]; rfl); have c1 : W6.cell? ⟨wr.heap.size, 1, none⟩ = some (.int .i64 (m : Nat)) := (by rw [h1.cell 1, HO2E.out]; rfl); have c2 : W6.cell? ⟨wr.heap.size, 2, none⟩ = some (.int .i64 o.n) := (by rw [h1.cell 2, HO2E.out]; rfl); clear h1 h2))
              refine (fuse_any B v s o.n _ HI6.out.is HOk.out.n).mono ?_
              rintro r w7 ⟨rfl, h7⟩
              have HS7 := Kp.mk h7
              clear h7 c0 c1 c2
              go_wp2_with fail
              go_roundw
              case rel => exact ⟨k + 1, fuseS s o.n, v, ll, by omega, by omega, by first | rfl | go_num, LInv.dev HI6.out HS7.out (fuseS_same s o.n).1 (fuseS_same s o.n).2.1 (fuseS_same s o.n).2.2.1 (by rw [(fuseS_same s o.n).2.2.2]; omega)⟩
              case measure => simp [intOf] <;> omega
            · by_cases k3 : o.kind = 3
              · go_wp2_with (first
                  | (refine wpList_load_mid rfl 32 (.tmp 33) rfl ab (off + k * 67) rfl (ocells o) _ HRG.out Try.underlying32 rfl (by rw [H67.out]; exact info32s) ?_)
                  | (refine wpList_alloc_row rfl 32 rfl _ _ infoz32 ?_; refine wpl_world (w := wr.alloc (.cells z32.toArray 32)) (fun w3 => Blk w3 wr.heap.size (.cells z32.toArray 32) ∧ Below wr.heap.size wr w3) ⟨Blk.new _ _, more (Below.refl _ _) _⟩ ?_; rintro W4 ⟨h1, h2⟩; have K1 := Kp.mk h1; have K2 := Kp.mk h2; clear h1 h2)
                  | (refine wpList_store_row rfl 32 (.tmp 8) (.tmp 34) rfl wr.heap.size (ocells o).toArray rfl rfl 32 _ K1.out (by rw [List.size_toArray, H67.out]; exact info32s) (by rw [List.size_toArray, List.size_toArray, H67.out, z32_len]) (all_oneCell_toArray (ocells_one o)) ?_; refine wpl_world (fun w3 => Blk w3 wr.heap.size (.cells (ocells o).toArray 32) ∧ Below wr.heap.size wr w3) ⟨Blk.setRow K1.out _, Below.row K2.out (Nat.le_refl _) _⟩ ?_; rintro W5 ⟨h1, h2⟩; have K3 := Kp.mk h1; have K4 := Kp.mk h2; have c0 : W5.cell? ⟨wr.heap.size, 0, none⟩ = some (.int .i64 o.kind) := (by rw [h1.cell 0]; rfl); have c1 : W5.cell? ⟨wr.heap.size, 1, none⟩ = some (.int .i64 o.at_) := (by rw [h1.cell 1]; rfl); have f1 := Blk.frozen h1 1; clear h1 h2 K1 K2)
                  | (refine wpl_world (w := W5.setCell ⟨wr.heap.size, 1, none⟩ (.int .i64 (m : Nat))) (fun w3 => Blk w3 wr.heap.size (.cells (ocells o2).toArray 32) ∧ Below wr.heap.size wr w3) ⟨by have h := Blk.set K3.out 1 (.int .i64 (m : Nat)); rw [ocells_set, ← HO2E.out] at h; exact h, K4.out.setCell (p := ⟨wr.heap.size, 1, none⟩) (Nat.le_refl _) _⟩ ?_; rintro W6 ⟨h1, h2⟩; have HO2 := Kp.mk h1; have HB6 := Kp.mk h2; have HI6 := Kp.mk (HI.out.keep h2); clear c0 c1 f1 K3 K4; have c0 : W6.cell? ⟨wr.heap.size, 0, none⟩ = some (.int .i64 o.kind) := (by rw [h1.cell 0, HO2E.out]; rfl); have c1 : W6.cell? ⟨wr.heap.size, 1, none⟩ = some (.int .i64 (m : Nat)) := (by rw [h1.cell 1, HO2E.out]; rfl); have c2 : W6.cell? ⟨wr.heap.size, 2, none⟩ = some (.int .i64 o.n) := (by rw [h1.cell 2, HO2E.out]; rfl); clear h1 h2))
                refine wp_region_held_drew (S := fun w' => w'.cell? ⟨wr.heap.size, 2, none⟩ = some (.int .i64 o.n) ∧ w'.cell? ⟨wr.heap.size, 1, none⟩ = some (.int .i64 (m : Nat))) (by kernel_rfl) (⟨c2, c1⟩) (fun hH => ?_)
                refine wpAnyH_take (i := 0) (oi := { dst := some 83, op := Go.Op.fieldAddr 32 (Go.Operand.tmp 8) 2, type := 0, pos := "law.go:120", after := #[], guard := none }) (v := .pointer (some ⟨wr.heap.size, 2, none⟩)) rfl (by kernel_rfl) (by kernel_rfl) (by kernel_rfl) (fun _ _ _ h => h) (Or.inl ⟨by rfl, fun w hS => by first | rfl | go_simp⟩) hH ?_
                simp only [Act.put, List.setIfInBounds_toArray, List.set_cons_zero, List.set_cons_succ]
                refine wpAnyH_take (i := 1) (oi := { dst := some 84, op := Go.Op.load 3 (Go.Operand.tmp 83), type := 3, pos := "law.go:120", after := #[{ on := 0, ground := Go.Ground.data }], guard := none }) (v := .int .i64 o.n) rfl (by kernel_rfl) (by kernel_rfl) (by kernel_rfl) (fun _ _ _ h => h) (Or.inl ⟨by rfl, fun w hS => by have h1 := hS.1; go_simp⟩) hH ?_
                simp only [Act.put, List.setIfInBounds_toArray, List.set_cons_zero, List.set_cons_succ]
                refine wpAnyH_take (i := 2) (oi := { dst := some 85, op := Go.Op.fieldAddr 32 (Go.Operand.tmp 8) 1, type := 0, pos := "law.go:120", after := #[{ on := 4, ground := Go.Ground.gcOnly Go.Departure.lateStores }], guard := none }) (v := .pointer (some ⟨wr.heap.size, 1, none⟩)) rfl (by kernel_rfl) (by kernel_rfl) (by kernel_rfl) (fun _ _ _ h => h) (Or.inl ⟨by rfl, fun w hS => by first | rfl | go_simp⟩) hH ?_
                simp only [Act.put, List.setIfInBounds_toArray, List.set_cons_zero, List.set_cons_succ]
                refine wpAnyH_take (i := 3) (oi := { dst := some 86, op := Go.Op.load 3 (Go.Operand.tmp 85), type := 3, pos := "law.go:120", after := #[{ on := 2, ground := Go.Ground.data }, { on := 4, ground := Go.Ground.gcOnly Go.Departure.lateStores }], guard := none }) (v := .int .i64 (m : Nat)) rfl (by kernel_rfl) (by kernel_rfl) (by kernel_rfl) (fun _ _ _ h => h) (Or.inl ⟨by rfl, fun w hS => by have h1 := hS.2; go_simp⟩) hH ?_
                simp only [Act.put, List.setIfInBounds_toArray, List.set_cons_zero, List.set_cons_succ]
                refine wpAnyH_take (i := 4) (oi := { dst := some 11, op := Go.Op.assign (Go.Operand.tmp 84), type := 3, pos := "law.go:120", after := #[{ on := 1, ground := Go.Ground.data }, { on := 0, ground := Go.Ground.phase }, { on := 1, ground := Go.Ground.phase }, { on := 2, ground := Go.Ground.textOnly Go.Departure.lateStores }, { on := 3, ground := Go.Ground.textOnly Go.Departure.lateStores }], guard := none }) (v := .int .i64 o.n) rfl (by kernel_rfl) (by kernel_rfl) (by kernel_rfl) (fun _ _ _ h => h) (Or.inl ⟨by rfl, fun w hS => by first | rfl | go_simp⟩) hH ?_
                simp only [Act.put, List.setIfInBounds_toArray, List.set_cons_zero, List.set_cons_succ]
                refine wpAnyH_take (i := 5) (oi := { dst := some 12, op := Go.Op.assign (Go.Operand.tmp 86), type := 3, pos := "law.go:120", after := #[{ on := 3, ground := Go.Ground.data }, { on := 4, ground := Go.Ground.chain }, { on := 0, ground := Go.Ground.phase }, { on := 1, ground := Go.Ground.phase }, { on := 2, ground := Go.Ground.phase }, { on := 3, ground := Go.Ground.phase }, { on := 4, ground := Go.Ground.phase }], guard := none }) (v := .int .i64 (m : Nat)) rfl (by kernel_rfl) (by kernel_rfl) (by kernel_rfl) (fun _ _ _ h => h) (Or.inl ⟨by rfl, fun w hS => by first | rfl | go_simp⟩) hH ?_
                simp only [Act.put, List.setIfInBounds_toArray, List.set_cons_zero, List.set_cons_succ]
                clear hH
                refine wpAnyH_done (by kernel_rfl) ?_ _
                have HI7 : Kp (LInv B NB B w W6.drew v v6 s ll k) := ⟨HI6.out.keep ⟨rfl, rfl, rfl, Nat.le_refl _, fun _ _ => rfl⟩⟩
                clear c0 c1 c2
                go_wp2_with fail
                refine (crash_any B v s o.n (m : Nat) _ HI7.out.is HQL.out).mono ?_
                rintro r w7 ⟨v', rfl, h7⟩
                have HM7 : Kp (LMid B NB B w w7 v' v6 (crashS s o.n (m : Nat)) ll s.ls) := ⟨HI7.out.mid h7⟩
                clear h7
                obtain ⟨kk, hkk⟩ : ∃ kk, kk = upN o.n s.q.length := ⟨_, rfl⟩
                have HKK := Kp.mk hkk
                have HKL : Kp (kk ≤ s.q.length) := ⟨by rw [hkk]; exact upN_le _ _⟩
                have HSC : Kp (crashS s o.n (m : Nat) = { s with ls := crashL s.ls s.q kk m, q := [], fu := -1, dn := false }) := ⟨by
                  unfold crashS
                  rw [← hkk, show upN (m : Int) 64 = m by unfold upN; have := HM64.out; omega]⟩
                have HLT : Kp (∀ j, j < s.q.length → (j < kk ↔ (j : Int) < o.n) ∧ (j = kk → (j : Int) = max o.n 0) ∧ (kk < j → (j : Int) ≠ max o.n 0)) := ⟨by
                  intro j hj
                  rw [HKK.out]
                  unfold upN
                  omega⟩
                obtain ⟨a6, c6, hv6⟩ := HI7.out.slice
                obtain ⟨ln, hln⟩ : ∃ ln, ln = ll.length := ⟨_, rfl⟩
                rw [← hln] at hv6
                subst hv6
                have HLN := Kp.mk hln
                have hln60 : ln ≤ 60 := by rw [hln]; exact HLL.out
                clear hln hkk
                obtain ⟨wo, rfl⟩ : ∃ wo : World, wo = wr := ⟨_, rfl⟩
                go_wp2_with fail
                go_loopw [93] (fun i wq => ∃ j : Nat, j ≤ ln ∧ i = .int .i64 j ∧ LMid B NB B w wq v' (.slice a6 ln c6) (crashS s o.n (m : Nat)) ll (crashJ s.ls s.q kk m j)) (fun i _ => ln - (intOf i).toNat)
                case atStart => exact ⟨0, Nat.zero_le _, rfl, by rw [crashJ_zero]; exact HM7.out⟩
                case round =>
                  obtain ⟨j, hj, rfl, hm7⟩ := hrel
                  have HM := Kp.mk hm7
                  clear hm7
                  by_cases hjl : j < ln
                  · obtain ⟨x, hx⟩ : ∃ x, x = ll[j]'(by rw [← HLN.out]; exact hjl) := ⟨_, rfl⟩
                    obtain ⟨hx1, hx2, hx3, hx4⟩ := HM.out.oo x (by rw [hx]; exact List.getElem_mem _)
                    obtain ⟨lb, cap2, e, hBl, hlb, hr⟩ := own_at HM.out.own (fun o ho => (HM.out.oo o ho).1) (i := j) (by rw [← HLN.out]; exact hjl)
                    rw [← hx] at hr
                    have HRX := Kp.mk hr
                    have HXl := Kp.mk hx1
                    have HXb := Kp.mk hx2
                    simp only [Value.slice.injEq] at e
                    obtain ⟨rfl, -, -⟩ := e
                    obtain ⟨xm, hxm⟩ : ∃ xm : Nat, x.at_ = (xm : Int) := ⟨x.at_.toNat, by omega⟩
                    have hxm5 : (xm : Int) < 5 := by omega
                    have HXM : Kp (xm < 5) := ⟨by omega⟩
                    have HXE := Kp.mk hxm
                    have HQJ : Kp (∃ h : j < s.q.length, s.q[j] = (xm, x.to)) := ⟨⟨by rw [HI.out.ql, ← HLN.out]; exact hjl, by
                      have : s.q[j]? = some (xm, x.to) := by
                        rw [HI.out.q, List.getElem?_map, List.getElem?_eq_getElem (by rw [← HLN.out]; exact hjl), ← hx, Option.map_some, HXE.out]
                        rfl
                      exact (List.getElem?_eq_some_iff.1 this).2⟩⟩
                    have HX67 : Kp ((ocells x).length = 67) := ⟨ocells_len hx1⟩
                    have HXI30 : Kp ((Try.prog.info? 30).map (·.size) = some (kv .u8 x.to).length) := ⟨by rw [List.length_map, HXl.out]; exact info30s⟩
                    have HXI35 : Kp ((Try.prog.info? 35).map (·.size) = some (kv .u8 x.to).toArray.size) := ⟨cells35 HXl.out⟩
                    have hjl' : (j : Int) < (ln : Int) := by omega
                    clear hx hx1 hx2 hx3 hx4 hBl hr hxm
                    obtain ⟨hq1, hq2⟩ := HQJ.out
                    have HQ2 := Kp.mk hq2
                    obtain ⟨t1, t2, t3⟩ := HLT.out j hq1
                    have HQ1 := Kp.mk hq1
                    clear hq2
                    by_cases hf : j < kk
                    · have hf' : (j : Int) < o.n := t1.1 hf
                      have HF := Kp.mk hf
                      clear t1 t2 t3 hf
                      go_wp2_with (first
                        | (refine wpList_load_mid rfl 32 (.tmp 96) rfl lb (j * 67) rfl (ocells x) _ HRX.out Try.underlying32 rfl (by rw [HX67.out]; exact info32s) ?_)
                        | (refine wpList_alloc_row rfl 32 rfl _ _ infoz32 ?_; refine wpl_world (w := wr.alloc (.cells z32.toArray 32)) (fun w3 => Blk w3 wr.heap.size (.cells z32.toArray 32) ∧ Below wr.heap.size wr w3) ⟨Blk.new _ _, more (Below.refl _ _) _⟩ ?_; rintro W4 ⟨h1, h2⟩; have K1 := Kp.mk h1; have K2 := Kp.mk h2; clear h1 h2)
                        | (refine wpList_store_row rfl 32 (.tmp 14) (.tmp 97) rfl wr.heap.size (ocells x).toArray rfl rfl 32 _ K1.out (by rw [List.size_toArray, HX67.out]; exact info32s) (by rw [List.size_toArray, List.size_toArray, HX67.out, z32_len]) (all_oneCell_toArray (ocells_one x)) ?_; refine wpl_world (fun w3 => Blk w3 wr.heap.size (.cells (ocells x).toArray 32) ∧ Below wr.heap.size wr w3) ⟨Blk.setRow K1.out _, Below.row K2.out (Nat.le_refl _) _⟩ ?_; rintro V ⟨h1, h2⟩; have E2 := Kp.mk h1; have HBV := Kp.mk h2; have E1 := Kp.mk (HM.out.keep h2); have c1 : V.cell? ⟨wr.heap.size, 1, none⟩ = some (.int .i64 (xm : Nat)) := (by rw [h1.cell 1, ← HXE.out]; rfl); clear h1 h2 K1 K2)
                        | (refine wpList_load_mid rfl 30 (.tmp 103) rfl wr.heap.size 3 rfl (kv .u8 x.to) _ (ocells_mid (o := x) E2.out) Try.underlying30 rfl HXI30.out ?_)
                        | (refine wpList_store_mid rfl 35 (.tmp 105) (.tmp 104) rfl NB (xm * 64) (kv .u8 x.to).toArray rfl rfl (E1.out.row.there (by rw [kv_size, HXl.out, E1.out.l5]; have := HXM.out; omega)) HXI35.out (kv_all _ _) ?_; refine wpl_world (fun w3 => Turn NB (.cells (kv .u8 (splice (crashJ s.ls s.q kk m j) (xm * 64) x.to)).toArray 41) V w3) (Turn.cellsN E1.out.row (by rw [HXl.out, E1.out.l5]; have := HXM.out; omega)) ?_; intro V2 h2; have E3 := Kp.mk h2; clear h2))
                      go_roundw
                      case rel =>
                        refine ⟨j + 1, by omega, by first | rfl | go_num, ?_⟩
                        have e : crashJ s.ls s.q kk m (j + 1) = splice (crashJ s.ls s.q kk m j) (xm * 64) x.to := by rw [crashJ_full HQ1.out HF.out, HQ2.out]
                        rw [e]
                        exact E1.out.turn E3.out (by rw [length_splice _ _ _ (by rw [HXl.out, E1.out.l5]; have := HXM.out; omega)]; exact E1.out.l5)
                      case measure => simp [intOf] <;> omega
                    · have hf' : o.n ≤ (j : Int) := by omega
                      by_cases hk2 : j = kk
                      · have he : ((j : Int) == max o.n 0) = true := by simp [t2 hk2]
                        have HE2 := Kp.mk hk2
                        have HCN : Kp (NB < wr.heap.size) := ⟨HM.out.row.lt⟩
                        clear t1 t2 t3 hf hk2
                        go_wp2_with (first
                          | (refine wpList_load_mid rfl 32 (.tmp 96) rfl lb (j * 67) rfl (ocells x) _ HRX.out Try.underlying32 rfl (by rw [HX67.out]; exact info32s) ?_)
                          | (refine wpList_alloc_row rfl 32 rfl _ _ infoz32 ?_; refine wpl_world (w := wr.alloc (.cells z32.toArray 32)) (fun w3 => Blk w3 wr.heap.size (.cells z32.toArray 32) ∧ Below wr.heap.size wr w3) ⟨Blk.new _ _, more (Below.refl _ _) _⟩ ?_; rintro W4 ⟨h1, h2⟩; have K1 := Kp.mk h1; have K2 := Kp.mk h2; clear h1 h2)
                          | (refine wpList_store_row rfl 32 (.tmp 14) (.tmp 97) rfl wr.heap.size (ocells x).toArray rfl rfl 32 _ K1.out (by rw [List.size_toArray, HX67.out]; exact info32s) (by rw [List.size_toArray, List.size_toArray, HX67.out, z32_len]) (all_oneCell_toArray (ocells_one x)) ?_; refine wpl_world (fun w3 => Blk w3 wr.heap.size (.cells (ocells x).toArray 32) ∧ Below wr.heap.size wr w3) ⟨Blk.setRow K1.out _, Below.row K2.out (Nat.le_refl _) _⟩ ?_; rintro V ⟨h1, h2⟩; have E2 := Kp.mk h1; have HBV := Kp.mk h2; have E1 := Kp.mk (HM.out.keep h2); have c1 : V.cell? ⟨wr.heap.size, 1, none⟩ = some (.int .i64 (xm : Nat)) := (by rw [h1.cell 1, ← HXE.out]; rfl); clear h1 h2 K1 K2))
                        refine wp_region_held_drew (S := fun w' => w'.cell? ⟨wr.heap.size, 1, none⟩ = some (.int .i64 (xm : Nat))) (by kernel_rfl) (c1) (fun hH => ?_)
                        refine wpAnyH_take (i := 0) (oi := { dst := some 110, op := Go.Op.fieldAddr 32 (Go.Operand.tmp 14) 1, type := 0, pos := "law.go:128", after := #[], guard := none }) (v := .pointer (some ⟨wr.heap.size, 1, none⟩)) rfl (by kernel_rfl) (by kernel_rfl) (by kernel_rfl) (fun _ _ _ h => h) (Or.inl ⟨by rfl, fun w hS => by first | rfl | go_simp⟩) hH ?_
                        simp only [Act.put, List.setIfInBounds_toArray, List.set_cons_zero, List.set_cons_succ]
                        refine wpAnyH_take (i := 1) (oi := { dst := some 111, op := Go.Op.load 3 (Go.Operand.tmp 110), type := 3, pos := "law.go:128", after := #[{ on := 0, ground := Go.Ground.data }], guard := none }) (v := .int .i64 (xm : Nat)) rfl (by kernel_rfl) (by kernel_rfl) (by kernel_rfl) (fun _ _ _ h => h) (Or.inl ⟨by rfl, fun w hS => by have h1 := hS; go_simp⟩) hH ?_
                        simp only [Act.put, List.setIfInBounds_toArray, List.set_cons_zero, List.set_cons_succ]
                        refine wpAnyH_take (i := 2) (oi := { dst := some 112, op := Go.Op.indexAddr 41 (Go.Operand.tmp 5) (Go.Operand.tmp 111), type := 0, pos := "law.go:128", after := #[{ on := 1, ground := Go.Ground.data }], guard := none }) (v := .pointer (some ⟨NB, xm * 64, none⟩)) rfl (by kernel_rfl) (by kernel_rfl) (by kernel_rfl) (fun _ _ _ h => h) (Or.inl ⟨by rfl, fun w hS => by have h1 := HXM.out; have h2 : (xm : Int) < 5 := (by omega); go_simp⟩) hH ?_
                        simp only [Act.put, List.setIfInBounds_toArray, List.set_cons_zero, List.set_cons_succ]
                        refine wpAnyH_take (i := 3) (oi := { dst := some 113, op := Go.Op.move (Go.Operand.tmp 12), type := 3, pos := "law.go:128", after := #[], guard := none }) (v := .int .i64 (m : Nat)) rfl (by kernel_rfl) (by kernel_rfl) (by kernel_rfl) (fun _ _ _ h => h) (Or.inl ⟨by rfl, fun w hS => by first | rfl | go_simp⟩) hH ?_
                        simp only [Act.put, List.setIfInBounds_toArray, List.set_cons_zero, List.set_cons_succ]
                        refine wpAnyH_take (i := 4) (oi := { dst := some 114, op := Go.Op.slice 35 (Go.Operand.tmp 112) none (some (Go.Operand.tmp 113)) none, type := 47, pos := "law.go:128", after := #[{ on := 2, ground := Go.Ground.data }, { on := 3, ground := Go.Ground.data }], guard := none }) (v := .slice (some ⟨NB, xm * 64, none⟩) m 64) rfl (by kernel_rfl) (by kernel_rfl) (by kernel_rfl) (fun _ _ _ h => h) (Or.inl ⟨by rfl, fun w hS => exec_slice35u HM64.out rfl rfl rfl⟩) hH ?_
                        simp only [Act.put, List.setIfInBounds_toArray, List.set_cons_zero, List.set_cons_succ]
                        refine wpAnyH_take (i := 5) (oi := { dst := some 115, op := Go.Op.fieldAddr 32 (Go.Operand.tmp 14) 3, type := 0, pos := "law.go:128", after := #[], guard := none }) (v := .pointer (some ⟨wr.heap.size, 3, none⟩)) rfl (by kernel_rfl) (by kernel_rfl) (by kernel_rfl) (fun _ _ _ h => h) (Or.inl ⟨by rfl, fun w hS => by first | rfl | go_simp⟩) hH ?_
                        simp only [Act.put, List.setIfInBounds_toArray, List.set_cons_zero, List.set_cons_succ]
                        refine wpAnyH_take (i := 6) (oi := { dst := some 116, op := Go.Op.move (Go.Operand.tmp 12), type := 3, pos := "law.go:128", after := #[], guard := none }) (v := .int .i64 (m : Nat)) rfl (by kernel_rfl) (by kernel_rfl) (by kernel_rfl) (fun _ _ _ h => h) (Or.inl ⟨by rfl, fun w hS => by first | rfl | go_simp⟩) hH ?_
                        simp only [Act.put, List.setIfInBounds_toArray, List.set_cons_zero, List.set_cons_succ]
                        refine wpAnyH_take (i := 7) (oi := { dst := some 117, op := Go.Op.slice 30 (Go.Operand.tmp 115) none (some (Go.Operand.tmp 116)) none, type := 47, pos := "law.go:128", after := #[{ on := 5, ground := Go.Ground.data }, { on := 6, ground := Go.Ground.data }], guard := none }) (v := .slice (some ⟨wr.heap.size, 3, none⟩) m 64) rfl (by kernel_rfl) (by kernel_rfl) (by kernel_rfl) (fun _ _ _ h => h) (Or.inl ⟨by rfl, fun w hS => exec_slice30u HM64.out rfl rfl rfl⟩) hH ?_
                        simp only [Act.put, List.setIfInBounds_toArray, List.set_cons_zero, List.set_cons_succ]
                        refine wpAnyH_ready (rs := [8]) (by kernel_rfl) (by simp) ?_
                        refine AllReadyH.cons (o := { dst := some 118, op := Go.Op.call { callee := Go.Callee.builtin Go.Builtin.copy, args := #[Go.Operand.tmp 114, Go.Operand.tmp 117], argTypes := #[47, 47] }, type := 3, pos := "law.go:128", after := #[{ on := 4, ground := Go.Ground.data }, { on := 7, ground := Go.Ground.data }], guard := none }) rfl (fun K hK => ?_) AllReadyH.nil
                        refine step_copy_turn rfl (.tmp 114) (.tmp 117) 47 47 rfl 5 Try.underlying47 (by kernel_rfl) (some ⟨NB, xm * 64, none⟩) (some ⟨wr.heap.size, 3, none⟩) m 64 m 64 rfl rfl NB (xm * 64) (kv .u8 (crashJ s.ls s.q kk m j)) 41 V (Turn.same E1.out.row).drew (kv .u8 (x.to.take m)) ?c1 ?c2 ?c3 (kv_one _) ?_
                        case c1 => rw [List.length_map, List.length_take, HXl.out, Nat.min_eq_left HM64.out]; exact (Nat.min_self m).symm
                        case c2 => exact fun _ => ⟨rfl, _, rfl, fun i v hv => by
                          have hj : i < m := by have := (List.getElem?_eq_some_iff.1 hv).1; rw [List.length_map, List.length_take] at this; omega
                          have h9 := ocells_mid E2.out.draw i v (by rw [← hv, List.getElem?_map, List.getElem?_map, List.getElem?_take, if_pos hj])
                          rw [add_off]
                          exact h9⟩
                        case c3 => rw [List.length_map, List.length_map, List.length_take, HXl.out, E1.out.l5]; have := HXM.out; have := HM64.out; omega
                        intro w4 hT4
                        have HT4 : Kp (Turn NB (.cells (kv .u8 (splice (crashJ s.ls s.q kk m j) (xm * 64) (x.to.take m))).toArray 41) V w4) := ⟨by have h := hT4; rw [splice_kv] at h; exact h⟩
                        clear hT4
                        refine hK.out _ _ ((HT4.out.other wr.heap.size E2.out.lt (by have := HCN.out; omega) |> fun e => (World.cell?_of_block (w := V) (a := ⟨wr.heap.size, 1, none⟩) e).trans c1)) (fun hHn => ?_)
                        clear hK K hH
                        have hH := hHn
                        clear hHn
                        try simp only [Act.put, List.setIfInBounds_toArray, List.set_cons_zero, List.set_cons_succ]
                        clear hH
                        refine wpAnyH_done (by kernel_rfl) ?_ _
                        have HFIN : Kp (LMid B NB B w w4 v' (.slice (some ⟨lb, 0, none⟩) ln c6) (crashS s o.n (m : Nat)) ll (crashJ s.ls s.q kk m (j + 1))) := ⟨by
                          have e : crashJ s.ls s.q kk m (j + 1) = splice (crashJ s.ls s.q kk m j) (xm * 64) (x.to.take m) := by
                            obtain ⟨h1, h2⟩ := HQJ.out
                            have := HE2.out
                            subst this
                            rw [crashJ_torn h1, h2]
                          rw [e]
                          exact E1.out.turn HT4.out (by rw [length_splice _ _ _ (by rw [List.length_take, HXl.out, E1.out.l5]; have := HXM.out; omega)]; exact E1.out.l5)⟩
                        clear HT4
                        go_wp2_with fail
                        go_roundw
                        case rel => exact ⟨j + 1, by omega, by first | rfl | go_num, HFIN.out⟩
                        case measure => simp [intOf] <;> omega
                      · have he := t3 (by omega)
                        have HK3 : Kp (kk < j) := ⟨by omega⟩
                        clear t1 t2 t3 hf hk2
                        go_wp2_with (first
                          | (refine wpList_load_mid rfl 32 (.tmp 96) rfl lb (j * 67) rfl (ocells x) _ HRX.out Try.underlying32 rfl (by rw [HX67.out]; exact info32s) ?_)
                          | (refine wpList_alloc_row rfl 32 rfl _ _ infoz32 ?_; refine wpl_world (w := wr.alloc (.cells z32.toArray 32)) (fun w3 => Blk w3 wr.heap.size (.cells z32.toArray 32) ∧ Below wr.heap.size wr w3) ⟨Blk.new _ _, more (Below.refl _ _) _⟩ ?_; rintro W4 ⟨h1, h2⟩; have K1 := Kp.mk h1; have K2 := Kp.mk h2; clear h1 h2)
                          | (refine wpList_store_row rfl 32 (.tmp 14) (.tmp 97) rfl wr.heap.size (ocells x).toArray rfl rfl 32 _ K1.out (by rw [List.size_toArray, HX67.out]; exact info32s) (by rw [List.size_toArray, List.size_toArray, HX67.out, z32_len]) (all_oneCell_toArray (ocells_one x)) ?_; refine wpl_world (fun w3 => Blk w3 wr.heap.size (.cells (ocells x).toArray 32) ∧ Below wr.heap.size wr w3) ⟨Blk.setRow K1.out _, Below.row K2.out (Nat.le_refl _) _⟩ ?_; rintro V ⟨h1, h2⟩; have E2 := Kp.mk h1; have HBV := Kp.mk h2; have E1 := Kp.mk (HM.out.keep h2); have c1 : V.cell? ⟨wr.heap.size, 1, none⟩ = some (.int .i64 (xm : Nat)) := (by rw [h1.cell 1, ← HXE.out]; rfl); clear h1 h2 K1 K2))
                        go_roundw
                        case rel => exact ⟨j + 1, by omega, by first | rfl | go_num, by rw [crashJ_rest HK3.out]; exact E1.out⟩
                        case measure => simp [intOf] <;> omega
                  · obtain rfl : j = ln := by omega
                    have HEND : Kp (LInv B NB B w wr v' (.slice none 0 0) (crashS s o.n (m : Nat)) [] (k + 1)) := ⟨by
                      refine HM.out.ends ?_ ?_ ?_ ?_
                      · have e : s.q.length = j := HI.out.ql.trans HLN.out.symm
                        rw [HSC.out, ← e]
                        exact crashJ_end HKL.out
                      · rw [HSC.out]; exact HI.out.n5
                      · rw [HSC.out]
                      · rw [HSC.out]; have := HI.out.st; simp; omega⟩
                    have HD0 : Kp ((crashS s o.n (m : Nat)).dn = false ∧ (crashS s o.n (m : Nat)).q = [] ∧ (crashS s o.n (m : Nat)).n = 5) := ⟨by rw [HSC.out]; exact ⟨rfl, rfl, HI.out.n5⟩⟩
                    generalize crashS s o.n (m : Nat) = s2 at *
                    clear HM HM7
                    go_wp2_with fail
                    obtain ⟨wp, rfl⟩ : ∃ wp : World, wp = wr := ⟨_, rfl⟩
                    go_loopw [120] (fun i wq => ∃ j : Nat, j ≤ 5 ∧ i = .int .i64 j ∧ LInv B NB B w wq v' (.slice none 0 0) s2 [] (k + 1)) (fun i _ => 5 - (intOf i).toNat)
                    case atStart => exact ⟨0, by omega, rfl, HEND.out⟩
                    case round =>
                      obtain ⟨j, hj, rfl, hi9⟩ := hrel
                      have H9 := Kp.mk hi9
                      clear hi9
                      by_cases hj5 : j < 5
                      · have hj5' : (j : Int) < 5 := by omega
                        have HJ5 := Kp.mk hj5
                        have HHE : Kp (hasE s2 (j : Nat) = 0) := ⟨by unfold hasE; rw [HD0.out.1, HD0.out.2.2]; simp; omega⟩
                        obtain ⟨zz, hzz⟩ : ∃ zz, zz = (s2.ls.drop (j * 64)).take 64 := ⟨_, rfl⟩
                        have HZE := Kp.mk hzz
                        have HL5 : Kp (s2.ls.length = 320) := ⟨by rw [H9.out.is.k.ll, H9.out.n5]⟩
                        have HZZ : Kp (zz.length = 64) := ⟨by rw [hzz, List.length_take, List.length_drop, HL5.out]; omega⟩
                        have HZB : Kp (Bytes zz) := ⟨by rw [hzz]; exact Bytes.take (Bytes.drop H9.out.is.k.lb _) _⟩
                        have HRZ : Kp (readZ s2 (j : Nat) = zz) := ⟨by unfold readZ; rw [if_pos HHE.out]; unfold readL; rw [HD0.out.2.1]; exact HZE.out.symm⟩
                        clear hzz hj
                        obtain ⟨wl, rfl⟩ : ∃ wl : World, wl = wr := ⟨_, rfl⟩
                        go_wp2_with fail
                        refine (read_any B v' s2 (j : Nat) _ H9.out.is (by rw [HD0.out.2.1]; simp)).mono ?_
                        rintro r w10 ⟨rfl, hb10⟩
                        rw [HRZ.out, HHE.out]
                        have H10 := Kp.mk (H9.out.keep hb10)
                        clear hb10
                        go_wp2_with (first
                          | (refine wpList_alloc_row rfl 35 rfl _ _ infoz64 ?_; refine wpl_world (w := w10.alloc (.cells (kv .u8 z64).toArray 35)) (fun w6 => Row w6 w10.heap.size 35 .u8 z64 ∧ Below w10.heap.size w10 w6) ⟨Blk.new _ _, more (Below.refl _ _) _⟩ ?_; rintro W8 ⟨h1, h2⟩; have K1 := Kp.mk h1; have K2 := Kp.mk h2; clear h1 h2)
                          | (refine wpList_store_row rfl 35 (.tmp 16) (.tmp 127) rfl w10.heap.size (kv .u8 zz).toArray rfl rfl 35 _ K1.out (cells64 HZZ.out) (by rw [kv_size, kv_size, HZZ.out, z64_len]) (kv_all _ _) ?_; refine wpl_world (fun w6 => Row w6 w10.heap.size 35 .u8 zz ∧ Below w10.heap.size w10 w6) ⟨K1.out.setRow _, Below.row K2.out (Nat.le_refl _) _⟩ ?_; rintro W9 ⟨h1, h2⟩; have E1 := Kp.mk h1; have H11 := Kp.mk (H10.out.keep h2); clear h1 h2 K1 K2))
                        have E2 := Kp.mk H11.out.row
                        refine wp_region_held_drew (S := fun w' => Row w' w10.heap.size 35 .u8 zz ∧ Row w' NB 41 .u8 s2.ls) (by kernel_rfl) (⟨E1.out, E2.out⟩) (fun hH => ?_)
                        refine wpAnyH_take (i := 0) (oi := { dst := some 129, op := Go.Op.move (Go.Operand.tmp 17), type := 24, pos := "law.go:133", after := #[], guard := none }) (v := .int .i64 0) rfl (by kernel_rfl) (by kernel_rfl) (by kernel_rfl) (fun _ _ _ h => h) (Or.inl ⟨by rfl, fun w hS => by first | rfl | go_simp⟩) hH ?_
                        simp only [Act.put, List.setIfInBounds_toArray, List.set_cons_zero, List.set_cons_succ]
                        refine wpAnyH_take (i := 1) (oi := { dst := some 130, op := Go.Op.binOp Go.BinOp.neq 24 (Go.Operand.tmp 129) (Go.Operand.const (Go.Value.int Go.IntKind.i64 0)) 24, type := 4, pos := "law.go:133", after := #[{ on := 0, ground := Go.Ground.data }], guard := none }) (v := .bool false) rfl (by kernel_rfl) (by kernel_rfl) (by kernel_rfl) (fun _ _ _ h => h) (Or.inl ⟨by rfl, fun w hS => by first | rfl | go_simp⟩) hH ?_
                        simp only [Act.put, List.setIfInBounds_toArray, List.set_cons_zero, List.set_cons_succ]
                        refine wpAnyH_take (i := 2) (oi := { dst := some 131, op := Go.Op.move (Go.Operand.tmp 130), type := 4, pos := "law.go:133", after := #[{ on := 1, ground := Go.Ground.data }], guard := none }) (v := .bool false) rfl (by kernel_rfl) (by kernel_rfl) (by kernel_rfl) (fun _ _ _ h => h) (Or.inl ⟨by rfl, fun w hS => by first | rfl | go_simp⟩) hH ?_
                        simp only [Act.put, List.setIfInBounds_toArray, List.set_cons_zero, List.set_cons_succ]
                        refine wpAnyH_take (i := 3) (oi := { dst := some 132, op := Go.Op.load 35 (Go.Operand.tmp 16), type := 35, pos := "law.go:133", after := #[{ on := 2, ground := Go.Ground.guard }], guard := some (2, false) }) (v := sec zz) rfl (by kernel_rfl) (by kernel_rfl) (by kernel_rfl) (fun _ _ _ h => h) (Or.inl ⟨by rfl, fun w hS => exec_load_row rfl rfl hS.1 Try.underlying35 rfl (cells64 HZZ.out)⟩) hH ?_
                        simp only [Act.put, List.setIfInBounds_toArray, List.set_cons_zero, List.set_cons_succ]
                        refine wpAnyH_take (i := 4) (oi := { dst := some 133, op := Go.Op.move (Go.Operand.tmp 15), type := 3, pos := "law.go:133", after := #[{ on := 2, ground := Go.Ground.guard }], guard := some (2, false) }) (v := .int .i64 (j : Nat)) rfl (by kernel_rfl) (by kernel_rfl) (by kernel_rfl) (fun _ _ _ h => h) (Or.inl ⟨by rfl, fun w hS => by first | rfl | go_simp⟩) hH ?_
                        simp only [Act.put, List.setIfInBounds_toArray, List.set_cons_zero, List.set_cons_succ]
                        refine wpAnyH_take (i := 5) (oi := { dst := some 134, op := Go.Op.indexAddr 41 (Go.Operand.tmp 5) (Go.Operand.tmp 133), type := 0, pos := "law.go:133", after := #[{ on := 4, ground := Go.Ground.data }, { on := 2, ground := Go.Ground.guard }], guard := some (2, false) }) (v := .pointer (some ⟨NB, j * 64, none⟩)) rfl (by kernel_rfl) (by kernel_rfl) (by kernel_rfl) (fun _ _ _ h => h) (Or.inl ⟨by rfl, fun w hS => by have h1 := HJ5.out; have h2 : (j : Int) < 5 := (by omega); go_simp⟩) hH ?_
                        simp only [Act.put, List.setIfInBounds_toArray, List.set_cons_zero, List.set_cons_succ]
                        refine wpAnyH_take (i := 6) (oi := { dst := some 135, op := Go.Op.load 35 (Go.Operand.tmp 134), type := 35, pos := "law.go:133", after := #[{ on := 5, ground := Go.Ground.data }, { on := 2, ground := Go.Ground.guard }], guard := some (2, false) }) (v := sec zz) rfl (by kernel_rfl) (by kernel_rfl) (by kernel_rfl) (fun _ _ _ h => h) (Or.inl ⟨by rfl, fun w hS => by rw [HZE.out]; exact exec_load_mid rfl rfl (hS.2.mid (by rw [HL5.out]; have := HJ5.out; omega)) Try.underlying35 rfl (cells35L (by rw [← HZE.out]; exact HZZ.out))⟩) hH ?_
                        simp only [Act.put, List.setIfInBounds_toArray, List.set_cons_zero, List.set_cons_succ]
                        refine wpAnyH_take (i := 7) (oi := { dst := some 136, op := Go.Op.binOp Go.BinOp.neq 35 (Go.Operand.tmp 132) (Go.Operand.tmp 135) 35, type := 4, pos := "law.go:133", after := #[{ on := 3, ground := Go.Ground.data }, { on := 6, ground := Go.Ground.data }, { on := 2, ground := Go.Ground.guard }], guard := some (2, false) }) (v := .bool false) rfl (by kernel_rfl) (by kernel_rfl) (by kernel_rfl) (fun _ _ _ h => h) (Or.inl ⟨by rfl, fun w hS => exec_neq35 HZZ.out HZB.out rfl rfl rfl⟩) hH ?_
                        simp only [Act.put, List.setIfInBounds_toArray, List.set_cons_zero, List.set_cons_succ]
                        refine wpAnyH_take (i := 8) (oi := { dst := some 137, op := Go.Op.pick (Go.Operand.tmp 131) (Go.Operand.const (Go.Value.bool true)) (Go.Operand.tmp 136), type := 4, pos := "law.go:133", after := #[{ on := 2, ground := Go.Ground.data }, { on := 7, ground := Go.Ground.data }], guard := none }) (v := .bool false) rfl (by kernel_rfl) (by kernel_rfl) (by kernel_rfl) (fun _ _ _ h => h) (Or.inl ⟨by rfl, fun w hS => by first | rfl | go_simp⟩) hH ?_
                        simp only [Act.put, List.setIfInBounds_toArray, List.set_cons_zero, List.set_cons_succ]
                        clear hH
                        refine wpAnyH_done (by kernel_rfl) ?_ _
                        have H12 : Kp (LInv B NB B w W9.drew v' (.slice none 0 0) s2 [] (k + 1)) := ⟨H11.out.keep ⟨rfl, rfl, rfl, Nat.le_refl _, fun _ _ => rfl⟩⟩
                        go_wp2_with fail
                        go_roundw
                        case rel => exact ⟨j + 1, by omega, by first | rfl | go_num, H12.out⟩
                        case measure => simp [intOf] <;> omega
                      · obtain rfl : j = 5 := by omega
                        go_wp2_with fail
                        go_roundw
                        case rel => exact ⟨k + 1, s2, v', [], by omega, by omega, by first | rfl | go_num, H9.out⟩
                        case measure => simp [intOf] <;> omega
              · have e0 : (o.kind == 0) = false := by simp [k0]
                have e1 : (o.kind == 1) = false := by simp [k1]
                have e2 : (o.kind == 2) = false := by simp [k2]
                have e3 : (o.kind == 3) = false := by simp [k3]
                clear k0 k1 k2 k3
                go_wp2_with (first
                  | (refine wpList_load_mid rfl 32 (.tmp 33) rfl ab (off + k * 67) rfl (ocells o) _ HRG.out Try.underlying32 rfl (by rw [H67.out]; exact info32s) ?_)
                  | (refine wpList_alloc_row rfl 32 rfl _ _ infoz32 ?_; refine wpl_world (w := wr.alloc (.cells z32.toArray 32)) (fun w3 => Blk w3 wr.heap.size (.cells z32.toArray 32) ∧ Below wr.heap.size wr w3) ⟨Blk.new _ _, more (Below.refl _ _) _⟩ ?_; rintro W4 ⟨h1, h2⟩; have K1 := Kp.mk h1; have K2 := Kp.mk h2; clear h1 h2)
                  | (refine wpList_store_row rfl 32 (.tmp 8) (.tmp 34) rfl wr.heap.size (ocells o).toArray rfl rfl 32 _ K1.out (by rw [List.size_toArray, H67.out]; exact info32s) (by rw [List.size_toArray, List.size_toArray, H67.out, z32_len]) (all_oneCell_toArray (ocells_one o)) ?_; refine wpl_world (fun w3 => Blk w3 wr.heap.size (.cells (ocells o).toArray 32) ∧ Below wr.heap.size wr w3) ⟨Blk.setRow K1.out _, Below.row K2.out (Nat.le_refl _) _⟩ ?_; rintro W5 ⟨h1, h2⟩; have K3 := Kp.mk h1; have K4 := Kp.mk h2; have c0 : W5.cell? ⟨wr.heap.size, 0, none⟩ = some (.int .i64 o.kind) := (by rw [h1.cell 0]; rfl); have c1 : W5.cell? ⟨wr.heap.size, 1, none⟩ = some (.int .i64 o.at_) := (by rw [h1.cell 1]; rfl); have f1 := Blk.frozen h1 1; clear h1 h2 K1 K2)
                  | (refine wpl_world (w := W5.setCell ⟨wr.heap.size, 1, none⟩ (.int .i64 (m : Nat))) (fun w3 => Blk w3 wr.heap.size (.cells (ocells o2).toArray 32) ∧ Below wr.heap.size wr w3) ⟨by have h := Blk.set K3.out 1 (.int .i64 (m : Nat)); rw [ocells_set, ← HO2E.out] at h; exact h, K4.out.setCell (p := ⟨wr.heap.size, 1, none⟩) (Nat.le_refl _) _⟩ ?_; rintro W6 ⟨h1, h2⟩; have HO2 := Kp.mk h1; have HB6 := Kp.mk h2; have HI6 := Kp.mk (HI.out.keep h2); clear c0 c1 f1 K3 K4; have c0 : W6.cell? ⟨wr.heap.size, 0, none⟩ = some (.int .i64 o.kind) := (by rw [h1.cell 0, HO2E.out]; rfl); have c1 : W6.cell? ⟨wr.heap.size, 1, none⟩ = some (.int .i64 (m : Nat)) := (by rw [h1.cell 1, HO2E.out]; rfl); have c2 : W6.cell? ⟨wr.heap.size, 2, none⟩ = some (.int .i64 o.n) := (by rw [h1.cell 2, HO2E.out]; rfl); clear h1 h2))
                clear c0 c1 c2
                go_roundw
                case rel => exact ⟨k + 1, s, v, ll, by omega, by omega, by first | rfl | go_num, HI6.out.more⟩
                case measure => simp [intOf] <;> omega
      · have HX := Kp.mk HI.out.below
        obtain rfl : k = 60 := by omega
        have hlt' : (60 : Int) < (len : Int) := by omega
        have hol : 60 < ol.length := by rw [HO.out.eq]; exact hlt
        obtain ⟨o, hoe⟩ : ∃ o, o = ol[60] := ⟨_, rfl⟩
        have HOk : Kp o.Ok := ⟨by rw [hoe]; exact HO.out.ok _ (List.getElem_mem hol)⟩
        obtain ⟨ab, off, rfl, hab, hrg⟩ := HO.out.cells 60 hol
        rw [← hoe] at hrg
        have HRG : Kp (wr.rangeAt ab (off + 60 * 67) (ocells o)) := ⟨rangeAt_below HI.out.below (by rw [HBe.out]; exact hab) hrg⟩
        have H67 : Kp ((ocells o).length = 67) := ⟨ocells_len HOk.out.l⟩
        have HN : Kp (B ≤ wr.heap.size) := ⟨by have := HI.out.row.lt; have := HI.out.nB; omega⟩
        clear hrg hoe hol
        go_wp2_with (first
          | (refine wpList_load_mid rfl 32 (.tmp 33) rfl ab (off + 60 * 67) rfl (ocells o) _ HRG.out Try.underlying32 rfl (by rw [H67.out]; exact info32s) ?_)
          | (refine wpList_alloc_row rfl 32 rfl _ _ infoz32 ?_; refine wpl_world (fun w3 => Blk w3 wr.heap.size (.cells z32.toArray 32) ∧ Below wr.heap.size wr w3) ⟨Blk.new _ _, more (Below.refl _ _) _⟩ ?_; rintro W4 ⟨h1, h2⟩; have K1 := Kp.mk h1; have K2 := Kp.mk h2; clear h1 h2)
          | (refine wpList_store_row rfl 32 (.tmp 8) (.tmp 34) rfl wr.heap.size (ocells o).toArray rfl rfl 32 _ K1.out (by rw [List.size_toArray, H67.out]; exact info32s) (by rw [List.size_toArray, List.size_toArray, H67.out, z32_len]) (all_oneCell_toArray (ocells_one o)) ?_; refine wpl_world (fun w3 => Below wr.heap.size wr w3) (Below.row K2.out (Nat.le_refl _) _) ?_; rintro W5 h2; have K4 := Kp.mk h2; clear h2 K1 K2))
        go_ret
        exact ⟨rfl, by rw [← HBe.out]; exact HX.out.trans (K4.out.mono HN.out)⟩
    · have HX := Kp.mk HI.out.below
      obtain rfl : k = len := by omega
      go_wp2_with fail
      go_ret
      exact ⟨rfl, by rw [← HBe.out]; exact HX.out⟩
end Go.Proofs.Ytgikedbnnlckjaa
