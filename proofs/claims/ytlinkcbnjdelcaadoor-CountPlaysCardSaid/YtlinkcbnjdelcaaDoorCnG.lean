/-
  CountPlays: the walk.
-/
import Derived.Test.YtlinkcbnjdelcaaDoorCnF
import Derived.Test.YtlinkcbnjdelcaaDoorCnH
import Derived.Test.YtlinkcbnjdelcaaDoorGen
import Derived.Deep.DeepCutAuto
import Derived.Deep.CutBlock
import Derived.Deep.RegionHeld3
namespace Go.Proofs.YtlinkcbnjdelcaaDoor
open Go.RowKit

abbrev mObj (f : Nat → Int) : Obj := .cells (cl f).toArray 25
abbrev oObj (d m : Int) : Obj := .cells #[.int .i64 d, .int .i64 m] 27
/-- The first k are one more. -/
def gk (f : Nat → Int) (k : Nat) : Nat → Int := fun i => if i < k then wrap64 (f i + 1) else f i
theorem w64 (x : Int) : IntKind.i64.wrap x = wrap64 x := by rw [IntKind.wrap_i64]; unfold wrap64; omega
theorem okB_nat {k : Nat} (h : k < 19) : okB k = true := by unfold okB; simp; omega
theorem gk_zero (f : Nat → Int) : gk f 0 = f := by funext i; simp [gk]
theorem gk_add (f : Nat → Int) {k : Nat} (h : k < 19) : addF (gk f k) k 1 = gk f (k + 1) ∧ addE k 1 = 0 := by
  unfold addF addE
  rw [if_pos ⟨okB_nat h, by omega⟩, if_pos ⟨okB_nat h, by omega⟩]
  refine ⟨?_, rfl⟩
  funext i
  unfold upd gk
  simp only [Int.toNat_natCast]
  by_cases e : i = k
  · subst e; simp
  · rw [if_neg e]
    by_cases hi : i < k
    · rw [if_pos hi, if_pos (by omega)]
    · rw [if_neg hi, if_neg (by omega)]
theorem gk_at (f : Nat → Int) {k : Nat} (h : k < 19) : getF (gk f (k + 1)) k = wrap64 (f k + 1) := by
  unfold getF
  rw [if_pos (okB_nat h)]
  unfold gk
  simp
theorem upd_ok {f : Nat → Int} (h : I64s f) (k : Nat) (x : Int) : I64s (upd f k (wrap64 x)) := fun i => by
  unfold upd
  split
  · unfold wrap64; omega
  · exact h i
theorem info25z : (Tryd.prog.info? 25).map (fun i => (i.zero, i.size)) = some (some (.agg (cl f0).toArray), 19) := by kernel_rfl
theorem info25l (f : Nat → Int) : (Tryd.prog.info? 25).map (·.size) = some (cl f).length := by rw [cl_len]; kernel_rfl
set_option maxRecDepth 100000 in
set_option maxHeartbeats 12800000 in
theorem countPlays_walk (ad : Option Addr) (len cap : Nat) (z : Nat → Int × Int) (w : World) (hops : IsOps w ad len z) (hk : Kon w) : Calls Tryd.prog 3 #[.slice ad len cap] w fun r w' => r = .returned (.bool true) ∧ Below w.heap.size w w' := by
  have HK := Kp.mk hk
  have HOPS := Kp.mk hops.2
  have hlm : len ≤ 9223372036854775807 := by have := hops.1; unfold maxLen at this; omega
  obtain ⟨b, hb⟩ : ∃ b, b = w.heap.size := ⟨_, rfl⟩
  obtain ⟨M, hM⟩ : ∃ M, M = b + 1 := ⟨_, rfl⟩
  have HBM0 : Kp (b = w.heap.size ∧ M = b + 1) := ⟨hb, hM⟩
  have HNB : Kp (b ≠ M) := ⟨by omega⟩
  clear hops hk hb hM
  go_enter Tryd.func3, Tryd.ntmps3
  go_wp2_with fail
  refine (new_any _).mono ?_
  rintro r w1 ⟨rfl, hw⟩
  rw [← HBM0.out.1]
  have K1 : Kp (Blk w1 b (cObj f0) ∧ Below w.heap.size w w1 ∧ w1.heap.size = M) := ⟨by rw [hw]; exact Blk.newAt _ HBM0.out.1, by rw [hw]; exact more (Below.refl _ _) _, by rw [hw, HBM0.out.2, HBM0.out.1]; simp⟩
  clear hw
  go_upto_block 0 with (refine wpList_alloc_row rfl 25 rfl (cl f0).toArray 19 info25z ?_)
  obtain ⟨w2, hw2⟩ : ∃ w2, w2 = w1.alloc (mObj f0) := ⟨_, rfl⟩
  have K2 : Kp (Blk w2 b (cObj f0) ∧ Blk w2 M (mObj f0) ∧ Below w.heap.size w w2) := ⟨by rw [hw2]; exact K1.out.1.old _, by rw [hw2]; exact Blk.newAt _ K1.out.2.2.symm, by rw [hw2]; exact K1.out.2.1.alloc K1.out.2.1.size _⟩
  rw [← hw2, K1.out.2.2]
  clear hw2 K1
  have I2 : Kp (I64s f0) := ⟨fun i => by unfold f0; omega⟩
  go_cut [] (fun wx => ∃ f, Kp (Blk wx b (cObj f) ∧ Blk wx M (mObj f) ∧ Below w.heap.size w wx) ∧ Kp (I64s f))
  case first =>
    go_wp2_with fail
    go_loopw [13] (fun ct wr => ∃ (j : Nat) (f : Nat → Int), j ≤ len ∧ ct = .int .i64 j ∧ Kp (Blk wr b (cObj f) ∧ Blk wr M (mObj f) ∧ Below w.heap.size w wr) ∧ Kp (I64s f)) (fun ct _ => len - (intOf ct).toNat)
    case atStart => exact ⟨0, f0, Nat.zero_le _, rfl, K2, I2⟩
    case round =>
      clear K2 I2
      obtain ⟨j, f, hj, rfl, K3, I3⟩ := hrel
      by_cases hjl : j < len
      · have hjl' : (j : Int) < (len : Int) := by omega
        have HJL := Kp.mk hjl
        obtain ⟨eb, off, rfl, hb1, hz⟩ := HOPS.out (by omega)
        obtain ⟨hc0, hc1, hw0, hw1⟩ := hz j hjl
        have hc0' := (K3.out.2.2.cell (p := ⟨eb, off + j * 2, none⟩) hb1).trans hc0
        have hc1' := (K3.out.2.2.cell (p := ⟨eb, off + j * 2 + 1, none⟩) hb1).trans hc1
        clear hc0 hc1 hb1 hz
        obtain ⟨d, hd⟩ : ∃ d, d = (z j).1 := ⟨_, rfl⟩
        obtain ⟨m, hm⟩ : ∃ m, m = (z j).2 := ⟨_, rfl⟩
        rw [← hd] at hc0' hw0
        rw [← hm] at hc1' hw1
        have HWF : Kp ((Lit.int .i64 d).wf = true ∧ (Lit.int .i64 m).wf = true) := ⟨hw0, hw1⟩
        obtain ⟨O, hO⟩ : ∃ O, O = wr.heap.size := ⟨_, rfl⟩
        have HO : Kp (O = wr.heap.size ∧ b ≠ O ∧ M ≠ O) := ⟨hO, by have := K3.out.1.lt; omega, by have := K3.out.2.1.lt; omega⟩
        obtain ⟨w4, hw4⟩ : ∃ w4, w4 = wr.alloc (oObj d m) := ⟨_, rfl⟩
        have K4 : Kp (Blk w4 b (cObj f) ∧ Blk w4 M (mObj f) ∧ Below w.heap.size w w4 ∧ Blk w4 O (oObj d m)) := ⟨by rw [hw4]; exact ⟨K3.out.1.old _, K3.out.2.1.old _, K3.out.2.2.alloc K3.out.2.2.size _, Blk.newAt _ hO⟩⟩
        have HW4 := Kp.mk hw4
        clear hd hm hw0 hw1 hO hw4 K3
        go_upto_region 6 with fail
        rw [← HW4.out, ← HO.out.1]
        clear HW4
        obtain ⟨o0, o1, -⟩ := K4.out.2.2.2.two
        by_cases h60 : 60 ≤ j
        · have h60' : (60 : Int) ≤ (j : Int) := by omega
          have K5 : Kp (Blk w4 b (cObj f) ∧ Blk w4 M (mObj f) ∧ Below w.heap.size w w4) := ⟨K4.out.1, K4.out.2.1, K4.out.2.2.1⟩
          clear K4
          go_wp2_with fail
          go_meet
          case rel => exact ⟨f, K5, I3⟩
        · have h60' : (j : Int) < 60 := by omega
          have HA := add_any f b d m w4 K4.out.1
          go_wp2_with fail
          refine HA.mono ?_
          rintro r w5 ⟨rfl, hT⟩
          have K5 : Kp (Blk w5 b (cObj (addF f d m)) ∧ Blk w5 M (mObj f) ∧ Below w.heap.size w w5 ∧ Blk w5 O (oObj d m)) := ⟨hT.blk, hT.keep K4.out.2.1 HNB.out.symm, K4.out.2.2.1.trans (hT.below (by rw [HBM0.out.1]; exact Nat.le_refl _) K4.out.2.2.1.size), hT.keep K4.out.2.2.2 HO.out.2.1.symm⟩
          clear hT HA K4 o0 o1
          obtain ⟨o0, o1, -⟩ := K5.out.2.2.2.two
          by_cases hok : okB d = true ∧ 0 ≤ m
          · obtain ⟨hk1, hm0⟩ := hok
            obtain ⟨k, rfl, hk19⟩ : ∃ k : Nat, d = k ∧ k < 19 := ⟨d.toNat, by simp [okB] at hk1; omega⟩
            have HE : Kp (addE k m = 0 ∧ addF f k m = upd f k (wrap64 (f k + m))) := ⟨by unfold addE; rw [if_pos ⟨hk1, hm0⟩], by unfold addF; rw [if_pos ⟨hk1, hm0⟩]; rfl⟩
            rw [HE.out.1]
            rw [HE.out.2] at K5
            have hk' : (k : Int) < 19 := by omega
            have HK19 := Kp.mk hk19
            have HMC : Kp (∀ wx, Blk wx M (mObj f) → wx.cell? ⟨M, k, none⟩ = some (.int .i64 (f k))) := ⟨fun wx hx => (hx.cell k).trans (by rw [List.getElem?_toArray, cl_at _ HK19.out])⟩
            clear hk1 hk19
            go_upto_region 11 with fail
            refine wp_region_flow_vars (fun w' => Blk w' b (cObj (upd f k (wrap64 (f k + m)))) ∧ Blk w' M (mObj f) ∧ Below w.heap.size w w' ∧ Blk w' O (oObj k m)) [0, 1, 2, 3, 4, 5, 6, 7] [] [8] (fun _ => .cells #[] 0) (by kernel_rfl) (by kernel_rfl) (by kernel_rfl) (by decide)
              (fun _ _ h hb => ⟨h.1.keep hb, h.2.1.keep hb, h.2.2.1.trans (hb.mono h.2.2.1.size), h.2.2.2.keep hb⟩) (⟨K5.out.1.draw, K5.out.2.1.draw, K5.out.2.2.1.drew, K5.out.2.2.2.draw⟩) (by simp) (by decide) ?_
            refine flowN_sel _ _ (by decide) ?_
            simp only [sel, List.filterMap_cons, List.filterMap_nil, List.getElem?_toArray, List.getElem?_cons_succ, List.getElem?_cons_zero]
            repeat (first
              | (apply Flow.value
                 · rfl
                 · (intro wx hS; have c1 := HMC.out wx hS.2.1; obtain ⟨d0, d1, -⟩ := hS.2.2.2.two; go_simp; with_reducible rfl)
                 try simp only [Act.put, List.setIfInBounds_toArray, List.set_cons_zero, List.set_cons_succ]))
            refine Flow.done ?_
            intro γ w6 hS hn hg
            simp only [putNew]
            have HC7 : Kp (∀ wx, Blk wx b (cObj (upd f k (wrap64 (f k + m)))) → Calls Tryd.prog 7 #[.pointer (some ⟨b, 0, none⟩), .int .i64 k] wx fun r w' => r = .returned (.int .i64 (upd f k (wrap64 (f k + m)) k)) ∧ Below wx.heap.size wx w') := ⟨fun wx hx => (get_any _ b k wx hx).mono fun r w' hh => ⟨by rw [← getF_ok (upd f k (wrap64 (f k + m))) HK19.out]; exact hh.1, by rw [← hh.2]; exact Below.refl _ _⟩⟩
            have hcM : w6.cell? ⟨M, k, none⟩ = some (.int .i64 (f k)) := HMC.out w6 hS.2.1
            have hzM : w6.frozen? ⟨M, k, none⟩ = false := hS.2.1.frozen k
            have K6 : Kp (Blk (w6.setCell ⟨M, k, none⟩ (.int .i64 (wrap64 (f k + m)))) b (cObj (upd f k (wrap64 (f k + m)))) ∧ Blk (w6.setCell ⟨M, k, none⟩ (.int .i64 (wrap64 (f k + m)))) M (mObj (upd f k (wrap64 (f k + m)))) ∧ Below w.heap.size w (w6.setCell ⟨M, k, none⟩ (.int .i64 (wrap64 (f k + m)))) ∧ Blk (w6.setCell ⟨M, k, none⟩ (.int .i64 (wrap64 (f k + m)))) O (oObj k m)) := ⟨(Below.heap_setCell _ _ _ _ HNB.out).trans hS.1, by
              have := hS.2.1.set k (.int .i64 (wrap64 (f k + m)))
              rwa [show (cl f).toArray.setIfInBounds k (.int .i64 (wrap64 (f k + m))) = (cl (upd f k (wrap64 (f k + m)))).toArray by rw [List.setIfInBounds_toArray, cl_set]] at this, hS.2.2.1.setCell (p := ⟨M, k, none⟩) (by rw [← HBM0.out.1, HBM0.out.2]; exact Nat.le_succ b) _, (Below.heap_setCell _ _ _ _ HO.out.2.2.symm).trans hS.2.2.2⟩
            have I6 : Kp (I64s (upd f k (wrap64 (f k + m)))) := ⟨upd_ok I3.out k _⟩
            clear hS hn hg K5 o0 o1
            refine wpOps_step rfl (by rfl) ?_
            go_simp
            refine wpOps_done ?_
            clear hcM hzM
            rw [w64]
            revert K6
            generalize w6.setCell ⟨M, k, none⟩ (.int .i64 (wrap64 (f k + m))) = w7
            intro K6
            obtain ⟨g, hg⟩ : ∃ g, g = upd f k (wrap64 (f k + m)) := ⟨_, rfl⟩
            rw [← hg] at K6 I6 HC7
            clear hg HMC HE
            have HMG : Kp (∀ wx, Blk wx M (mObj g) → wx.cell? ⟨M, k, none⟩ = some (.int .i64 (g k))) := ⟨fun wx hx => (hx.cell k).trans (by rw [List.getElem?_toArray, cl_at _ HK19.out])⟩
            have HC8 : Kp (∀ wx, Blk wx b (cObj g) → Below w.heap.size w wx → Calls Tryd.prog 8 #[.pointer (some ⟨b, 0, none⟩)] wx fun r w' => r = .returned (.string (textA g)) ∧ Below wx.heap.size wx w') := ⟨fun wx hx hy => text_any g I6.out b wx hx (HK.out.keep hy)⟩
            have HC9 : Kp (∀ wx, Calls Tryd.prog 9 #[.agg (cl g).toArray] wx fun r w' => r = .returned (.string (textA g)) ∧ Below wx.heap.size wx w') := ⟨fun wx => rtext_any g I6.out wx⟩
            have HI25 : Kp ((Tryd.prog.info? 25).map (·.size) = some (cl g).length) := ⟨info25l g⟩
            obtain ⟨TX, hTX⟩ : ∃ TX, TX = textA g := ⟨_, rfl⟩
            rw [← hTX] at HC8 HC9
            have hTT : (TX.toList == TX.toList) = true := by simp
            clear hTX
            go_upto_region 12 with fail
            refine wp_region_flow (fun w' => Blk w' b (cObj g) ∧ Blk w' M (mObj g) ∧ Below w.heap.size w w' ∧ Blk w' O (oObj k m)) (by kernel_rfl) (by kernel_rfl) (by kernel_rfl)
              (fun _ _ h hb => ⟨h.1.keep hb, h.2.1.keep hb, h.2.2.1.trans (hb.mono h.2.2.1.size), h.2.2.2.keep hb⟩) (⟨K6.out.1.draw, K6.out.2.1.draw, K6.out.2.2.1.drew, K6.out.2.2.2.draw⟩) ?_
            repeat (first
              | (apply Flow.call
                 · rfl
                 · intro wx hS; go_simp; constructor <;> with_reducible rfl
                 · intro wx hS; with_reducible exact HC7.out wx hS.1
                 try simp only [Act.put, List.setIfInBounds_toArray, List.set_cons_zero, List.set_cons_succ])
              | (apply Flow.call
                 · rfl
                 · intro wx hS; go_simp; constructor <;> with_reducible rfl
                 · intro wx hS; with_reducible exact HC8.out wx hS.1 hS.2.2.1
                 try simp only [Act.put, List.setIfInBounds_toArray, List.set_cons_zero, List.set_cons_succ])
              | (apply Flow.call
                 · rfl
                 · intro wx hS; go_simp; constructor <;> with_reducible rfl
                 · intro wx hS; with_reducible exact HC9.out wx
                 try simp only [Act.put, List.setIfInBounds_toArray, List.set_cons_zero, List.set_cons_succ])
              | (apply Flow.value
                 · rfl
                 · (intro wx hS; exact exec_load_mid (cs := cl g) rfl rfl (Blk.range (cs := cl g) (o := 0) hS.2.1 (by simp)) Tryd.underlying25 rfl HI25.out)
                 try simp only [Act.put, List.setIfInBounds_toArray, List.set_cons_zero, List.set_cons_succ])
              | (apply Flow.value
                 · rfl
                 · (intro wx hS; have c1 := HMG.out wx hS.2.1; obtain ⟨d0, d1, -⟩ := hS.2.2.2.two; go_simp; with_reducible rfl)
                 try simp only [Act.put, List.setIfInBounds_toArray, List.set_cons_zero, List.set_cons_succ]))
            refine Flow.done ?_
            intro w8 hS
            have K8 : Kp (Blk w8 b (cObj g) ∧ Blk w8 M (mObj g) ∧ Below w.heap.size w w8) := ⟨hS.1, hS.2.1, hS.2.2.1⟩
            clear hS K6
            go_wp2_with fail
            exact ⟨⟨j + 1, g, by have := HJL.out; omega, by go_num, K8, I6⟩, by have := HJL.out; simp [intOf]; omega⟩
          · have HE : Kp (addE d m = 1 ∧ addF f d m = f) := ⟨by unfold addE; rw [if_neg hok], by unfold addF; rw [if_neg hok]⟩
            rw [HE.out.1]
            rw [HE.out.2] at K5
            have HGT := get_any f b d w5 K5.out.1
            have K6 : Kp (Blk w5 b (cObj f) ∧ Blk w5 M (mObj f) ∧ Below w.heap.size w w5) := ⟨K5.out.1, K5.out.2.1, K5.out.2.2.1⟩
            clear K5
            by_cases h0 : d < 0
            · have hg : getF f d = 0 := by unfold getF okB; rw [if_neg (by simp; omega)]
              rw [hg] at HGT
              clear hok hg
              go_wp2_with fail
              refine HGT.mono ?_
              rintro r w6 ⟨rfl, rfl⟩
              go_wp2_with fail
              exact ⟨⟨j + 1, f, by have := HJL.out; omega, by go_num, K6, I3⟩, by have := HJL.out; simp [intOf]; omega⟩
            · by_cases h19 : 19 ≤ d
              · have hg : getF f d = 0 := by unfold getF okB; rw [if_neg (by simp; omega)]
                rw [hg] at HGT
                clear hok hg
                go_wp2_with fail
                refine HGT.mono ?_
                rintro r w6 ⟨rfl, rfl⟩
                go_wp2_with fail
                exact ⟨⟨j + 1, f, by have := HJL.out; omega, by go_num, K6, I3⟩, by have := HJL.out; simp [intOf]; omega⟩
              · have hm0 : m < 0 := by
                  apply Classical.byContradiction
                  intro h
                  exact hok ⟨by simp [okB]; omega, by omega⟩
                obtain ⟨G, hG⟩ : ∃ G, G = getF f d := ⟨_, rfl⟩
                rw [← hG] at HGT
                clear hok hG
                go_wp2_with fail
                refine HGT.mono ?_
                rintro r w6 ⟨rfl, rfl⟩
                cases hz : (G != 0)
                all_goals
                  go_wp2_with fail
                  exact ⟨⟨j + 1, f, by have := HJL.out; omega, by go_num, K6, I3⟩, by have := HJL.out; simp [intOf]; omega⟩
      · have hjl' : (len : Int) ≤ (j : Int) := by omega
        go_wp2_with fail
        go_meet
        case rel => exact ⟨f, K3, I3⟩
  case rest =>
    obtain ⟨f, K3, I3⟩ := hcut
    clear K2 I2
    obtain ⟨L, hL⟩ : ∃ L, L = wc.heap.size := ⟨_, rfl⟩
    have HNE : Kp (b ≠ M ∧ b ≠ L ∧ w.heap.size ≤ b) := ⟨HNB.out, by have := K3.out.1.lt; omega, by rw [HBM0.out.1]; exact Nat.le_refl _⟩
    have HA := all_any f b wc K3.out.1
    unfold AllPost at HA
    rw [← hL] at HA
    have HLE := Kp.mk hL
    clear hL
    go_wp2_with fail
    refine HA.mono ?_
    rintro r w3 ⟨rfl, hbl, hbb⟩
    have K4 : Kp (Blk w3 b (cObj (gk f 0)) ∧ Blk w3 M (mObj f) ∧ Below w.heap.size w w3 ∧ Blk w3 L (lObj f)) := ⟨by rw [gk_zero]; exact K3.out.1.keep (by rw [← HLE.out]; exact hbb), K3.out.2.1.keep (by rw [← HLE.out]; exact hbb), K3.out.2.2.trans (hbb.mono (by rw [HLE.out]; exact K3.out.2.2.size)), hbl⟩
    clear hbl hbb HA K3
    go_wp2_with fail
    go_loopw [94] (fun ct wr => ∃ k : Nat, k ≤ 19 ∧ ct = .int .i64 k ∧ Kp (Blk wr b (cObj (gk f k)) ∧ Blk wr M (mObj f) ∧ Below w.heap.size w wr ∧ Blk wr L (lObj f))) (fun ct _ => 19 - (intOf ct).toNat)
    case atStart => exact ⟨0, by omega, rfl, K4⟩
    case round =>
      clear K4
      obtain ⟨k, hk19, rfl, K4⟩ := hrel
      by_cases hlt : k < 19
      · have hlt' : (k : Int) < 19 := by omega
        have HLT := Kp.mk hlt
        have HLC : Kp ((∀ wx, Blk wx L (lObj f) → wx.cell? ⟨L, k, none⟩ = some (.int .i64 (f k))) ∧ (∀ wx, Blk wx M (mObj f) → wx.cell? ⟨M, k, none⟩ = some (.int .i64 (f k)))) := ⟨fun wx hx => (hx.cell k).trans (by rw [List.getElem?_toArray, cl_at _ HLT.out]), fun wx hx => (hx.cell k).trans (by rw [List.getElem?_toArray, cl_at _ HLT.out])⟩
        have HBM : Kp (∀ wx, Blk wx b (cObj (gk f k)) → Calls Tryd.prog 11 #[.pointer (some ⟨b, 0, none⟩), .int .i64 k] wx fun r w' => r = .returned (.int .i64 0) ∧ Turn b (cObj (gk f (k + 1))) wx w') := ⟨fun wx hx => by have := bump_any (gk f k) b k wx hx; rwa [(gk_add f HLT.out).1, (gk_add f HLT.out).2] at this⟩
        have HGT : Kp (∀ wx, Blk wx b (cObj (gk f (k + 1))) → Calls Tryd.prog 7 #[.pointer (some ⟨b, 0, none⟩), .int .i64 k] wx fun r w' => r = .returned (.int .i64 (wrap64 (f k + 1))) ∧ wx = w') := ⟨fun wx hx => by have := get_any (gk f (k + 1)) b k wx hx; rwa [gk_at f HLT.out] at this⟩
        clear hlt
        go_upto_region 21 with fail
        refine wp_region_held_drew (S := fun w' => Blk w' L (lObj f) ∧ Blk w' M (mObj f)) (by kernel_rfl) (⟨K4.out.2.2.2.draw, K4.out.2.1.draw⟩) (fun hH => ?_)
        refine wpAnyH_take (i := 0) (oi := { dst := some 97, op := Go.Op.move (Go.Operand.tmp 8), type := 33, pos := "law.go:49", after := #[], guard := none }) (v := .slice (some ⟨L, 0, none⟩) 19 19) rfl (by kernel_rfl) (by kernel_rfl) (by kernel_rfl) (fun _ _ _ h => h) (Or.inl ⟨by rfl, fun w hS => by first | rfl | go_simp⟩) hH ?_
        simp only [Act.put, List.setIfInBounds_toArray, List.set_cons_zero, List.set_cons_succ]
        refine wpAnyH_take (i := 1) (oi := { dst := some 98, op := Go.Op.move (Go.Operand.tmp 9), type := 3, pos := "law.go:49", after := #[], guard := none }) (v := .int .i64 k) rfl (by kernel_rfl) (by kernel_rfl) (by kernel_rfl) (fun _ _ _ h => h) (Or.inl ⟨by rfl, fun w hS => by first | rfl | go_simp⟩) hH ?_
        simp only [Act.put, List.setIfInBounds_toArray, List.set_cons_zero, List.set_cons_succ]
        refine wpAnyH_take (i := 2) (oi := { dst := some 99, op := Go.Op.indexAddr 33 (Go.Operand.tmp 97) (Go.Operand.tmp 98), type := 0, pos := "law.go:49", after := #[{ on := 0, ground := Go.Ground.data }, { on := 1, ground := Go.Ground.data }], guard := none }) (v := .pointer (some ⟨L, k, none⟩)) rfl (by kernel_rfl) (by kernel_rfl) (by kernel_rfl) (fun _ _ _ h => h) (Or.inl ⟨by rfl, fun w hS => by go_simp⟩) hH ?_
        simp only [Act.put, List.setIfInBounds_toArray, List.set_cons_zero, List.set_cons_succ]
        refine wpAnyH_take (i := 3) (oi := { dst := some 100, op := Go.Op.load 2 (Go.Operand.tmp 99), type := 2, pos := "law.go:49", after := #[{ on := 2, ground := Go.Ground.data }], guard := none }) (v := .int .i64 (f k)) rfl (by kernel_rfl) (by kernel_rfl) (by kernel_rfl) (fun _ _ _ h => h) (Or.inl ⟨by rfl, fun w hS => by have c1 : w.cell? ⟨L, k, none⟩ = some (.int .i64 (f k)) := HLC.out.1 w hS.1; go_simp⟩) hH ?_
        simp only [Act.put, List.setIfInBounds_toArray, List.set_cons_zero, List.set_cons_succ]
        refine wpAnyH_take (i := 4) (oi := { dst := some 101, op := Go.Op.move (Go.Operand.tmp 9), type := 3, pos := "law.go:49", after := #[], guard := none }) (v := .int .i64 k) rfl (by kernel_rfl) (by kernel_rfl) (by kernel_rfl) (fun _ _ _ h => h) (Or.inl ⟨by rfl, fun w hS => by first | rfl | go_simp⟩) hH ?_
        simp only [Act.put, List.setIfInBounds_toArray, List.set_cons_zero, List.set_cons_succ]
        refine wpAnyH_take (i := 5) (oi := { dst := some 102, op := Go.Op.indexAddr 25 (Go.Operand.tmp 4) (Go.Operand.tmp 101), type := 0, pos := "law.go:49", after := #[{ on := 4, ground := Go.Ground.data }], guard := none }) (v := .pointer (some ⟨M, k, none⟩)) rfl (by kernel_rfl) (by kernel_rfl) (by kernel_rfl) (fun _ _ _ h => h) (Or.inl ⟨by rfl, fun w hS => by go_simp⟩) hH ?_
        simp only [Act.put, List.setIfInBounds_toArray, List.set_cons_zero, List.set_cons_succ]
        refine wpAnyH_take (i := 6) (oi := { dst := some 103, op := Go.Op.load 2 (Go.Operand.tmp 102), type := 2, pos := "law.go:49", after := #[{ on := 5, ground := Go.Ground.data }], guard := none }) (v := .int .i64 (f k)) rfl (by kernel_rfl) (by kernel_rfl) (by kernel_rfl) (fun _ _ _ h => h) (Or.inl ⟨by rfl, fun w hS => by have c1 : w.cell? ⟨M, k, none⟩ = some (.int .i64 (f k)) := HLC.out.2 w hS.2; go_simp⟩) hH ?_
        simp only [Act.put, List.setIfInBounds_toArray, List.set_cons_zero, List.set_cons_succ]
        refine wpAnyH_take (i := 7) (oi := { dst := some 104, op := Go.Op.binOp Go.BinOp.neq 2 (Go.Operand.tmp 100) (Go.Operand.tmp 103) 2, type := 4, pos := "law.go:49", after := #[{ on := 3, ground := Go.Ground.data }, { on := 6, ground := Go.Ground.data }], guard := none }) (v := .bool false) rfl (by kernel_rfl) (by kernel_rfl) (by kernel_rfl) (fun _ _ _ h => h) (Or.inl ⟨by rfl, fun w hS => by go_simp⟩) hH ?_
        simp only [Act.put, List.setIfInBounds_toArray, List.set_cons_zero, List.set_cons_succ]
        refine wpAnyH_take (i := 8) (oi := { dst := some 105, op := Go.Op.move (Go.Operand.tmp 104), type := 4, pos := "law.go:49", after := #[{ on := 7, ground := Go.Ground.data }], guard := none }) (v := .bool false) rfl (by kernel_rfl) (by kernel_rfl) (by kernel_rfl) (fun _ _ _ h => h) (Or.inl ⟨by rfl, fun w hS => by go_simp⟩) hH ?_
        simp only [Act.put, List.setIfInBounds_toArray, List.set_cons_zero, List.set_cons_succ]
        refine wpAnyH_take (i := 9) (oi := { dst := some 106, op := Go.Op.move (Go.Operand.tmp 3), type := 23, pos := "law.go:49", after := #[{ on := 8, ground := Go.Ground.guard }], guard := some (8, false) }) (v := .pointer (some ⟨b, 0, none⟩)) rfl (by kernel_rfl) (by kernel_rfl) (by kernel_rfl) (fun _ _ _ h => h) (Or.inl ⟨by rfl, fun w hS => by go_simp⟩) hH ?_
        simp only [Act.put, List.setIfInBounds_toArray, List.set_cons_zero, List.set_cons_succ]
        refine wpAnyH_take (i := 10) (oi := { dst := some 107, op := Go.Op.move (Go.Operand.tmp 9), type := 3, pos := "law.go:49", after := #[{ on := 8, ground := Go.Ground.guard }], guard := some (8, false) }) (v := .int .i64 k) rfl (by kernel_rfl) (by kernel_rfl) (by kernel_rfl) (fun _ _ _ h => h) (Or.inl ⟨by rfl, fun w hS => by go_simp⟩) hH ?_
        simp only [Act.put, List.setIfInBounds_toArray, List.set_cons_zero, List.set_cons_succ]
        refine wpAnyH_ready (rs := [11]) (by kernel_rfl) (by simp) ?_
        refine AllReadyH.cons (o := { dst := some 108, op := Go.Op.call { callee := Go.Callee.value (Go.Operand.func 11), args := #[Go.Operand.tmp 106, Go.Operand.tmp 107], argTypes := #[23, 3] }, type := 28, pos := "law.go:49", after := #[{ on := 9, ground := Go.Ground.data }, { on := 10, ground := Go.Ground.data }, { on := 8, ground := Go.Ground.chain }, { on := 8, ground := Go.Ground.guard }], guard := some (8, false) }) rfl (fun K hK => ?_) AllReadyH.nil
        go_simp
        refine (HBM.out _ K4.out.1.draw).mono ?_
        rintro r w5 ⟨rfl, hT⟩
        have K5 : Kp (Blk w5 b (cObj (gk f (k + 1))) ∧ Blk w5 M (mObj f) ∧ Below w.heap.size w w5 ∧ Blk w5 L (lObj f)) := ⟨hT.blk, hT.keep K4.out.2.1.draw HNE.out.1.symm, (K4.out.2.2.1.drew).trans (hT.below HNE.out.2.2 K4.out.2.2.1.size), hT.keep K4.out.2.2.2.draw HNE.out.2.1.symm⟩
        clear hT K4
        refine hK.out _ _ (⟨K5.out.2.2.2, K5.out.2.1⟩) (fun hHn => ?_)
        clear hK K hH
        have hH := hHn
        clear hHn
        try simp only [Act.put, List.setIfInBounds_toArray, List.set_cons_zero, List.set_cons_succ]
        refine wpAnyH_take (i := 12) (oi := { dst := some 109, op := Go.Op.binOp Go.BinOp.neq 28 (Go.Operand.tmp 108) (Go.Operand.const (Go.Value.int Go.IntKind.i64 0)) 28, type := 4, pos := "law.go:49", after := #[{ on := 11, ground := Go.Ground.data }, { on := 8, ground := Go.Ground.guard }], guard := some (8, false) }) (v := .bool false) rfl (by kernel_rfl) (by kernel_rfl) (by kernel_rfl) (fun _ _ _ h => h) (Or.inl ⟨by rfl, fun w hS => by go_simp⟩) hH ?_
        simp only [Act.put, List.setIfInBounds_toArray, List.set_cons_zero, List.set_cons_succ]
        refine wpAnyH_take (i := 13) (oi := { dst := some 110, op := Go.Op.pick (Go.Operand.tmp 105) (Go.Operand.const (Go.Value.bool true)) (Go.Operand.tmp 109), type := 4, pos := "law.go:49", after := #[{ on := 8, ground := Go.Ground.data }, { on := 12, ground := Go.Ground.data }], guard := none }) (v := .bool false) rfl (by kernel_rfl) (by kernel_rfl) (by kernel_rfl) (fun _ _ _ h => h) (Or.inl ⟨by rfl, fun w hS => by go_simp⟩) hH ?_
        simp only [Act.put, List.setIfInBounds_toArray, List.set_cons_zero, List.set_cons_succ]
        refine wpAnyH_take (i := 14) (oi := { dst := some 111, op := Go.Op.move (Go.Operand.tmp 110), type := 4, pos := "law.go:49", after := #[{ on := 13, ground := Go.Ground.data }, { on := 11, ground := Go.Ground.chain }], guard := none }) (v := .bool false) rfl (by kernel_rfl) (by kernel_rfl) (by kernel_rfl) (fun _ _ _ h => h) (Or.inl ⟨by rfl, fun w hS => by go_simp⟩) hH ?_
        simp only [Act.put, List.setIfInBounds_toArray, List.set_cons_zero, List.set_cons_succ]
        refine wpAnyH_take (i := 15) (oi := { dst := some 112, op := Go.Op.move (Go.Operand.tmp 3), type := 23, pos := "law.go:49", after := #[{ on := 14, ground := Go.Ground.guard }], guard := some (14, false) }) (v := .pointer (some ⟨b, 0, none⟩)) rfl (by kernel_rfl) (by kernel_rfl) (by kernel_rfl) (fun _ _ _ h => h) (Or.inl ⟨by rfl, fun w hS => by go_simp⟩) hH ?_
        simp only [Act.put, List.setIfInBounds_toArray, List.set_cons_zero, List.set_cons_succ]
        refine wpAnyH_take (i := 16) (oi := { dst := some 113, op := Go.Op.move (Go.Operand.tmp 9), type := 3, pos := "law.go:49", after := #[{ on := 14, ground := Go.Ground.guard }], guard := some (14, false) }) (v := .int .i64 k) rfl (by kernel_rfl) (by kernel_rfl) (by kernel_rfl) (fun _ _ _ h => h) (Or.inl ⟨by rfl, fun w hS => by go_simp⟩) hH ?_
        simp only [Act.put, List.setIfInBounds_toArray, List.set_cons_zero, List.set_cons_succ]
        refine wpAnyH_take (i := 18) (oi := { dst := some 115, op := Go.Op.move (Go.Operand.tmp 9), type := 3, pos := "law.go:49", after := #[{ on := 14, ground := Go.Ground.guard }], guard := some (14, false) }) (v := .int .i64 k) rfl (by kernel_rfl) (by kernel_rfl) (by kernel_rfl) (fun _ _ _ h => h) (Or.inl ⟨by rfl, fun w hS => by go_simp⟩) hH ?_
        simp only [Act.put, List.setIfInBounds_toArray, List.set_cons_zero, List.set_cons_succ]
        refine wpAnyH_take (i := 19) (oi := { dst := some 116, op := Go.Op.indexAddr 25 (Go.Operand.tmp 4) (Go.Operand.tmp 115), type := 0, pos := "law.go:49", after := #[{ on := 18, ground := Go.Ground.data }, { on := 14, ground := Go.Ground.guard }], guard := some (14, false) }) (v := .pointer (some ⟨M, k, none⟩)) rfl (by kernel_rfl) (by kernel_rfl) (by kernel_rfl) (fun _ _ _ h => h) (Or.inl ⟨by rfl, fun w hS => by go_simp⟩) hH ?_
        simp only [Act.put, List.setIfInBounds_toArray, List.set_cons_zero, List.set_cons_succ]
        refine wpAnyH_take (i := 20) (oi := { dst := some 117, op := Go.Op.load 2 (Go.Operand.tmp 116), type := 2, pos := "law.go:49", after := #[{ on := 19, ground := Go.Ground.data }, { on := 14, ground := Go.Ground.guard }], guard := some (14, false) }) (v := .int .i64 (f k)) rfl (by kernel_rfl) (by kernel_rfl) (by kernel_rfl) (fun _ _ _ h => h) (Or.inl ⟨by rfl, fun w hS => by have c1 : w.cell? ⟨M, k, none⟩ = some (.int .i64 (f k)) := HLC.out.2 w hS.2; go_simp⟩) hH ?_
        simp only [Act.put, List.setIfInBounds_toArray, List.set_cons_zero, List.set_cons_succ]
        refine wpAnyH_take (i := 21) (oi := { dst := some 118, op := Go.Op.binOp Go.BinOp.add 2 (Go.Operand.tmp 117) (Go.Operand.const (Go.Value.int Go.IntKind.i64 1)) 2, type := 2, pos := "law.go:49", after := #[{ on := 20, ground := Go.Ground.data }, { on := 14, ground := Go.Ground.guard }], guard := some (14, false) }) (v := .int .i64 (wrap64 (f k + 1))) rfl (by kernel_rfl) (by kernel_rfl) (by kernel_rfl) (fun _ _ _ h => h) (Or.inl ⟨by rfl, fun w hS => by go_simp; exact w64 _⟩) hH ?_
        simp only [Act.put, List.setIfInBounds_toArray, List.set_cons_zero, List.set_cons_succ]
        refine wpAnyH_ready (rs := [17]) (by kernel_rfl) (by simp) ?_
        refine AllReadyH.cons (o := { dst := some 114, op := Go.Op.call { callee := Go.Callee.value (Go.Operand.func 7), args := #[Go.Operand.tmp 112, Go.Operand.tmp 113], argTypes := #[23, 3] }, type := 2, pos := "law.go:49", after := #[{ on := 15, ground := Go.Ground.data }, { on := 16, ground := Go.Ground.data }, { on := 14, ground := Go.Ground.chain }, { on := 14, ground := Go.Ground.guard }], guard := some (14, false) }) rfl (fun K hK => ?_) AllReadyH.nil
        go_simp
        refine (HGT.out _ K5.out.1).mono ?_
        rintro r w6 ⟨rfl, rfl⟩
        refine hK.out _ _ (⟨K5.out.2.2.2, K5.out.2.1⟩) (fun hHn => ?_)
        clear hK K hH
        have hH := hHn
        clear hHn
        try simp only [Act.put, List.setIfInBounds_toArray, List.set_cons_zero, List.set_cons_succ]
        refine wpAnyH_take (i := 22) (oi := { dst := some 119, op := Go.Op.binOp Go.BinOp.neq 2 (Go.Operand.tmp 114) (Go.Operand.tmp 118) 2, type := 4, pos := "law.go:49", after := #[{ on := 17, ground := Go.Ground.data }, { on := 21, ground := Go.Ground.data }, { on := 14, ground := Go.Ground.guard }], guard := some (14, false) }) (v := .bool false) rfl (by kernel_rfl) (by kernel_rfl) (by kernel_rfl) (fun _ _ _ h => h) (Or.inl ⟨by rfl, fun w hS => by go_simp⟩) hH ?_
        simp only [Act.put, List.setIfInBounds_toArray, List.set_cons_zero, List.set_cons_succ]
        refine wpAnyH_take (i := 23) (oi := { dst := some 120, op := Go.Op.pick (Go.Operand.tmp 111) (Go.Operand.const (Go.Value.bool true)) (Go.Operand.tmp 119), type := 4, pos := "law.go:49", after := #[{ on := 14, ground := Go.Ground.data }, { on := 22, ground := Go.Ground.data }], guard := none }) (v := .bool false) rfl (by kernel_rfl) (by kernel_rfl) (by kernel_rfl) (fun _ _ _ h => h) (Or.inl ⟨by rfl, fun w hS => by go_simp⟩) hH ?_
        simp only [Act.put, List.setIfInBounds_toArray, List.set_cons_zero, List.set_cons_succ]
        clear hH
        refine wpAnyH_done (by kernel_rfl) ?_ _
        have K6 : Kp (Blk w5 b (cObj (gk f (k + 1))) ∧ Blk w5 M (mObj f) ∧ Below w.heap.size w w5 ∧ Blk w5 L (lObj f)) := K5
        go_wp2_with fail
        exact ⟨⟨k + 1, by have := HLT.out; omega, by go_num, K6⟩, by have := HLT.out; simp [intOf]; omega⟩
      · have hi : (19 : Int) ≤ (k : Int) := by omega
        have KF := Kp.mk K4.out.2.2.1
        clear K4
        go_wp2_with fail
        refine (awake_any _ (HK.out.keep KF.out)).mono ?_
        rintro r w9 ⟨rfl, hb⟩
        have KG := Kp.mk (KF.out.trans (hb.mono KF.out.size))
        clear hb
        go_wp2_with fail
        go_ret
        exact ⟨rfl, KG.out⟩
end Go.Proofs.YtlinkcbnjdelcaaDoor
