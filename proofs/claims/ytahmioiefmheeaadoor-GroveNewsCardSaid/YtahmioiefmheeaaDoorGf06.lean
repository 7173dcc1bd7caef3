/-
  The document's Sum, walked.
  The document's Text and Short.
  append, and in which block what comes of it lies; two rows that grow side by side.
  The document's Num: a number as four or eight bytes.
-/
import Derived.Test.YtahmioiefmheeaaDoorGf05
import Derived.ArgAppend
import Derived.OwnWalk
namespace Go.Proofs.YtahmioiefmheeaaDoor
open Go.RowKit

theorem info24 : (Tryd.prog.info? 37).map (·.size) = some 32 := by kernel_rfl
theorem cells24 {l : List Int} (h : l.length = 32) : (Tryd.prog.info? 37).map (·.size) = some (kv .u8 l).toArray.size := by rw [info24, kv_size, h]
abbrev z24 : Obj := .cells (kv .u8 (fill 32 [])).toArray 37
set_option maxRecDepth 100000 in
set_option maxHeartbeats 2000000 in
theorem rsum_any (M : Nat) (v : Value) (p : List Int) (w : World) (h : HoldsB w M v p) (hlen : p.length ≤ 140737488351400) :
    Calls Tryd.prog 89 #[v] w fun r w' => r = .returned (.agg (kv .u8 (digest p)).toArray) ∧ Below w.heap.size w w' := by
  have H := Kp.mk h
  have HL := Kp.mk hlen
  have HPb := Kp.mk h.bytes
  clear h hlen
  go_enter Tryd.func89, Tryd.ntmps89
  go_wp2_with fail
  refine calls_world (fun W => Row W w.heap.size 37 .u8 (fill 32 []) ∧ Below w.heap.size w W) ⟨Blk.newAt (w := w) z24 rfl, more (Below.refl _ _) z24⟩ ?_
  rintro w1 ⟨h1, h2⟩
  have H1 := Kp.mk h1
  have H2 := Kp.mk h2
  clear h1 h2
  refine (pad_any M v p w1 (H.out.keep H2.out) HL.out).mono ?_
  rintro r w2 ⟨v1, rfl, ho, hb⟩
  obtain ⟨L, hL⟩ : ∃ L, L = (pad p).length := ⟨_, rfl⟩
  have hpb : Bytes (pad p) := by
    unfold pad
    rw [← tl_full]
    exact HPb.out.append (tl_bytes _ _)
  have hh : HoldsB w2 w2.heap.size v1 (pad p) := HoldsB.ofRow hpb ho
  rw [← hL] at ho
  obtain ⟨a1, c1, rfl⟩ := row_slice ho
  have HP := Kp.mk hh
  have HLe := Kp.mk hL
  have G1 : Kp (Row w2 w.heap.size 37 .u8 (fill 32 [])) := ⟨H1.out.keep hb⟩
  have G2 : Kp (Below w.heap.size w w2) := ⟨H2.out.trans (hb.mono H2.out.size)⟩
  clear ho hb hh hpb hL H1 H2
  go_wp2_with fail
  refine (first_any w2).mono ?_
  rintro r w3 ⟨rfl, hb⟩
  have HP3 := Kp.mk (HP.out.keep hb)
  have F1 := Kp.mk (G1.out.keep hb)
  have F2 : Kp (Below w.heap.size w w3) := ⟨G2.out.trans (hb.mono G2.out.size)⟩
  have HC8 := Kp.mk (cells68 (list_len first))
  have HS8 := Kp.mk (size8 (list_len first))
  clear hb HP G1 G2
  go_wp2_with (refine wpList_store_row rfl 148 (.tmp 4) (.tmp 13) rfl w3.heap.size (kv .u32 first.list).toArray rfl rfl 148 _ (Blk.new w3 z68) HC8.out HS8.out (kv_all _ _) ?_)
  obtain ⟨Hb, hHb⟩ : ∃ Hb, Hb = w3.heap.size := ⟨_, rfl⟩
  rw [← hHb]
  refine calls_world (fun W => Row W Hb 148 .u32 first.list ∧ Row W w.heap.size 37 .u8 (fill 32 []) ∧ Below w.heap.size w W ∧ HoldsX W Hb (.slice a1 L c1) (pad p) ∧ Hb < W.heap.size)
    ⟨Row.setRow (k := .u32) (l := fill 8 []) (Blk.newAt z68 hHb) _, Row.otherRow (F1.out.alloc z68) (by have := F1.out.lt; omega) _, Below.row (more F2.out z68) (by have := F2.out.size; omega) _,
     (HP3.out.apart (more (Below.refl _ _) z68) (by omega)).turn (Turn.row (Turn.same (Blk.newAt z68 hHb)) _), by simp [hHb]⟩ ?_
  rintro w4 ⟨h1, h2, h3, h4, h5⟩
  have hAH : Kp (w.heap.size < Hb) := ⟨by rw [hHb]; exact F1.out.lt⟩
  refine (kon_any w4).mono ?_
  rintro r w5 ⟨rfl, hb⟩
  have E1 := Kp.mk (h1.keep hb)
  have E2 := Kp.mk (h2.keep hb)
  have E3 : Kp (Below w.heap.size w w5) := ⟨h3.trans (hb.mono h3.size)⟩
  have E4 := Kp.mk (h4.keep hb)
  have HC7 := Kp.mk (cells70 kon_len)
  have HS7 : Kp ((kv .u32 (fill 64 [])).toArray.size = (kv .u32 kon).toArray.size) := ⟨by rw [kv_size, kv_size, kon_len]; rfl⟩
  clear h1 h2 h3 h4 h5 hb F1 F2 HP3 hHb
  go_wp2_with (refine wpList_store_row rfl 153 (.tmp 5) (.tmp 14) rfl w5.heap.size (kv .u32 kon).toArray rfl rfl 153 _ (Blk.new w5 z70) HC7.out HS7.out (kv_all _ _) ?_)
  obtain ⟨Kb, hKb⟩ : ∃ Kb, Kb = w5.heap.size := ⟨_, rfl⟩
  obtain ⟨A, hA⟩ : ∃ A, A = w.heap.size := ⟨_, rfl⟩
  have HAe := Kp.mk hA
  rw [← hKb]
  rw [← hA] at E2 E3 hAH ⊢
  obtain ⟨q, hq⟩ : ∃ q, q = blocks p.length := ⟨_, rfl⟩
  have hLq : L = 64 * q := by rw [HLe.out, pad_len, hq]
  have HQ := Kp.mk hq
  have HLq := Kp.mk hLq
  have hz63 : zeros p.length ≤ 63 := by unfold zeros; omega
  have hzb := zeros_blocks p.length
  have hLb : L ≤ 140737488355328 := by rw [hLq, hq, hzb]; have := HL.out; omega
  clear hz63 hzb
  refine wp_world (fun W => Row W Hb 148 .u32 (absorb (pad p) 0).list ∧ Row W Kb 153 .u32 kon ∧ Row W A 37 .u8 (fill 32 []) ∧ HoldsX W Hb (.slice a1 L c1) (pad p) ∧ Below A w W)
    ⟨Row.otherRow (E1.out.alloc _) (by have := E1.out.lt; omega) _, Row.setRow (k := .u32) (l := fill 64 []) (Blk.newAt z70 hKb) _, Row.otherRow (E2.out.alloc _) (by have := E2.out.lt; omega) _,
     E4.out.keep (Below.row (more (Below.refl _ _) z70) (g := Kb) (by rw [hKb]; exact Nat.le_refl _) _), Below.row (E3.out.alloc (by rw [hA]; exact E3.out.size) _) (by have := E3.out.size; omega) _⟩ ?_
  rintro w6 ⟨h1, h2, h3, h4, h5⟩
  have D1 := Kp.mk h1
  have D2 := Kp.mk h2
  have D3 := Kp.mk h3
  have D4 := Kp.mk h4
  have D5 := Kp.mk h5
  have HAK : Kp (A < Kb ∧ Hb < Kb) := ⟨by rw [hKb]; exact ⟨E2.out.lt, E1.out.lt⟩⟩
  clear h1 h2 h3 h4 h5 E1 E2 E3 E4 hKb hq hLq hA
  go_wp2_with fail
  go_loopw [6] (fun c wr => ∃ i n : Nat, i ≤ q ∧ Kp (n = 64 * i) ∧ c = .int .i64 n ∧ Row wr Hb 148 .u32 (absorb (pad p) i).list ∧ Row wr Kb 153 .u32 kon ∧ Row wr A 37 .u8 (fill 32 []) ∧ HoldsX wr Hb (.slice a1 L c1) (pad p) ∧ Below A w wr) (fun c _ => L - (intOf c).toNat)
  case atStart => exact ⟨0, 0, by omega, ⟨rfl⟩, rfl, D1.out, D2.out, D3.out, D4.out, D5.out⟩
  case round =>
    obtain ⟨i, n, hi, Hn, rfl, h1, h2, h3, h4, h5⟩ := hrel
    have G1 := Kp.mk h1
    have G2 := Kp.mk h2
    have G3 := Kp.mk h3
    have G4 := Kp.mk h4
    have G5 := Kp.mk h5
    clear h1 h2 h3 h4 h5 D1 D2 D3 D4 D5
    by_cases hlt : n < L
    · have hiq : i < q := by have := Hn.out; have := HLq.out; omega
      have HIQ := Kp.mk hiq
      obtain ⟨v2, hv2, hh2⟩ := G4.out.h.mid (i := n) (j := n + 64) (by omega) (by rw [← HLe.out]; have := Hn.out; have := HLq.out; omega)
      simp only [show ((n + 64 : Nat) : Int) = (n : Int) + 64 from by omega] at hv2
      have HH2 := Kp.mk hh2
      have HC8b := Kp.mk (show (Tryd.prog.info? 148).map (·.size) = some (kv .u32 (absorb (pad p) i).list).length by rw [List.length_map, list_len]; exact info68')
      have HC7b := Kp.mk (show (Tryd.prog.info? 153).map (·.size) = some (kv .u32 kon).length by rw [List.length_map, kon_len]; exact info70)
      have e64 : IntKind.i64.wrap ((n : Int) + 64) = (n : Int) + 64 := IntWalk.i64_in _ (by omega)
      have hnL : (n : Int) < L := by omega
      clear hh2 hiq hi
      go_wp2_with fail
      refine wp_region_still_tail 7 (by kernel_rfl) (by kernel_rfl) ?_
      simp only [List.take_succ_cons, List.take_zero, List.drop_succ_cons, List.drop_zero]
      refine still_load_mid rfl 148 (.tmp 4) rfl Hb 0 rfl (kv .u32 (absorb (pad p) i).list) _ (Row.range G1.out.drew) Tryd.underlying148 rfl HC8b.out ?_
      iterate 5 still_step
      refine still_load_mid rfl 153 (.tmp 5) rfl Kb 0 rfl (kv .u32 kon) _ (Row.range G2.out.drew) Tryd.underlying153 rfl HC7b.out ?_
      refine wpStill_nil ?_
      clear hv2 e64
      refine wpl_world (fun W => Row W Hb 148 .u32 (absorb (pad p) i).list ∧ Row W Kb 153 .u32 kon ∧ Row W A 37 .u8 (fill 32 []) ∧ HoldsX W Hb (.slice a1 L c1) (pad p) ∧ Below A w W ∧ HoldsB W W.heap.size v2 (((pad p).drop n).take (n + 64 - n)))
        ⟨G1.out.drew, G2.out.drew, G3.out.drew, ⟨G4.out.h.drew, G4.out.x⟩, G5.out.drew, HH2.out.drew⟩ ?_
      rintro w7 ⟨h1, h2, h3, h4, h5, h6⟩
      have F1 := Kp.mk h1
      have F2 := Kp.mk h2
      have F3 := Kp.mk h3
      have F4 := Kp.mk h4
      have F5 := Kp.mk h5
      have F6 := Kp.mk h6
      clear h1 h2 h3 h4 h5 h6 G1 G2 G3 G4 G5
      go_wp2_with fail
      refine (rblock_any _ (absorb (pad p) i) _ _ w7 F6.out (by rw [List.length_take, List.length_drop, ← HLe.out]; have := Hn.out; have := HLq.out; have := HIQ.out; omega)).mono ?_
      rintro r w8 ⟨rfl, hb⟩
      have HBk : Kp (block (absorb (pad p) i) (((pad p).drop n).take (n + 64 - n)) = absorb (pad p) (i + 1)) := ⟨by rw [Nat.add_sub_cancel_left, Hn.out]; rfl⟩
      rw [HBk.out]
      have P1 := Kp.mk (F1.out.keep hb)
      have P2 := Kp.mk (F2.out.keep hb)
      have P3 := Kp.mk (F3.out.keep hb)
      have P4 := Kp.mk (F4.out.keep hb)
      have P5 : Kp (Below A w w8) := ⟨F5.out.trans (hb.mono (Nat.le_of_lt F3.out.lt))⟩
      have HC9 := Kp.mk (cells68 (list_len (absorb (pad p) (i + 1))))
      have HS9 : Kp ((kv .u32 (absorb (pad p) i).list).toArray.size = (kv .u32 (absorb (pad p) (i + 1)).list).toArray.size) := ⟨by rw [kv_size, kv_size]; rfl⟩
      clear hb
      go_wp2_with (refine wpList_store_row rfl 148 (.tmp 4) (.tmp 28) rfl Hb (kv .u32 (absorb (pad p) (i + 1)).list).toArray rfl rfl 148 _ P1.out HC9.out HS9.out (kv_all _ _) ?_)
      refine ⟨⟨i + 1, n + 64, ?_, ⟨?_⟩, by go_num, P1.out.setRow _, P2.out.otherRow (by have := HAK.out; omega) _, P3.out.otherRow (by have := hAH.out; omega) _, P4.out.turn (Turn.row (Turn.same P1.out) _), Below.row P5.out (by have := hAH.out; omega) _⟩, by simp [intOf]; omega⟩
      · have := HIQ.out; omega
      · have := Hn.out; omega
    · have HI : Kp (i = q) := ⟨by have := Hn.out; have := HLq.out; omega⟩
      have hge : (L : Int) ≤ n := by omega
      have HSum : Kp (Row wr Hb 148 .u32 (sumSt p).list) := by
        have h := G1.out
        rw [HI.out, HQ.out] at h
        exact ⟨h⟩
      have HR := Kp.mk (sum_range p)
      have HDg : Kp ((sumSt p).bytes = digest p) := ⟨rfl⟩
      have hnL : ¬ ((n : Int) < L) := by omega
      clear hlt hi G1 G2 G4
      obtain ⟨D, hD⟩ : ∃ D, D = wr.heap.size := ⟨_, rfl⟩
      generalize sumSt p = S at *
      go_wp2_with fail
      rw [← hD]
      refine wp_world (fun W => Row W Hb 148 .u32 S.list ∧ Row W A 37 .u8 (fill 32 []) ∧ Below A w W ∧ Row W D 37 .u8 (fill 32 (S.bytes.take (4 * 0)))) ⟨HSum.out.alloc _, G3.out.alloc _, G5.out.alloc (Nat.le_of_lt G3.out.lt) _, Blk.newAt z24 hD⟩ ?_
      have HAD : Kp (A < D ∧ Hb < D) := ⟨by rw [hD]; exact ⟨G3.out.lt, HSum.out.lt⟩⟩
      rintro w9 ⟨h1, h2, h3, h4⟩
      have D1 := Kp.mk h1
      have D2 := Kp.mk h2
      have D3 := Kp.mk h3
      have D4 := Kp.mk h4
      clear h1 h2 h3 h4 hD hge hnL HSum G3 G5
      go_wp2_with fail
      go_loopw [8] (fun c wr => ∃ i : Nat, i ≤ 8 ∧ c = .int .i64 i ∧ Row wr Hb 148 .u32 S.list ∧ Row wr A 37 .u8 (fill 32 []) ∧ Below A w wr ∧ Row wr D 37 .u8 (fill 32 (S.bytes.take (4 * i)))) (fun c _ => 8 - (intOf c).toNat)
      case atStart => exact ⟨0, by omega, rfl, D1.out, D2.out, D3.out, D4.out⟩
      case round =>
        obtain ⟨k, hk, rfl, h1, h2, h3, h4⟩ := hrel
        have G1 := Kp.mk h1
        have G2 := Kp.mk h2
        have G3 := Kp.mk h3
        have G4 := Kp.mk h4
        clear h1 h2 h3 h4 D1 D2 D3 D4
        by_cases hlk : k < 8
        · have ch := G1.out.cell (i := k) (by rw [list_len]; exact hlk)
          have hx := HR.out k hlk
          generalize hX : S.list.getD k 0 = X at *
          have HX := Kp.mk hX
          obtain ⟨hx0, hx1⟩ := hx
          have k8 : (k : Int) < 8 := by omega
          clear hX
          go_wp2_with fail
          clear ch
          go_loopw [9, 10] (fun xq c wr => ∃ t : Nat, t ≤ 4 ∧ c = .int .i64 ((3 : Int) - t) ∧ xq = .int .u32 (X / 256 ^ t) ∧ Row wr Hb 148 .u32 S.list ∧ Row wr A 37 .u8 (fill 32 []) ∧ Below A w wr ∧ Row wr D 37 .u8 (wst S k t)) (fun _ c _ => (intOf c + 1).toNat)
          case atStart => exact ⟨0, by omega, rfl, by simp, G1.out, G2.out, G3.out, by rw [wst_zero S k hlk]; exact G4.out⟩
          case round =>
            obtain ⟨t, ht, rfl, rfl, h1, h2, h3, h4⟩ := hrel
            have F1 := Kp.mk h1
            have F2 := Kp.mk h2
            have F3 := Kp.mk h3
            have F4 := Kp.mk h4
            clear h1 h2 h3 h4 G1 G2 G3 G4
            have q0 : 0 ≤ X / 256 ^ t := Int.ediv_nonneg hx0 (Int.pow_nonneg (by decide))
            have q1 : X / 256 ^ t < 4294967296 := Int.lt_of_le_of_lt (Int.ediv_le_self _ hx0) hx1
            have HQd : Kp (X / 256 ^ t / 256 = X / 256 ^ (t + 1)) := ⟨by rw [Int.ediv_ediv_of_nonneg (Int.pow_nonneg (by decide)), Int.pow_succ]⟩
            have HS := fun h => Kp.mk (wst_set S k t hlk h)
            rw [HX.out] at HS
            generalize hQ : X / 256 ^ t = Q at *
            by_cases hlt : t < 4
            · have HS2 := HS hlt
              clear HS
              obtain ⟨u, hu⟩ : ∃ u : Nat, (3 : Int) - t = u := ⟨3 - t, by omega⟩
              have HU : Kp (u = 3 - t ∧ u < 4) := ⟨by omega⟩
              rw [hu]
              have u4 : u < 4 := by omega
              have cw := F4.out.cell (i := 4 * k + u) (by rw [wst_len S k t hlk ht]; omega)
              have fw := F4.out.frozen (4 * k + u)
              have HHu := Kp.mk hu
              clear hu hQ
              go_wp2_with fail
              refine ⟨⟨t + 1, by omega, ?_, ?_, F1.out.other (by show D ≠ Hb; have := HAD.out; omega) _, F2.out.other (by show D ≠ A; have := HAD.out; omega) _, F3.out.setCell (by show A ≤ D; have := HAD.out; omega) _, ?_⟩, by simp [intOf]⟩
              · have := HHu.out
                congr 1
                omega
              · rw [HQd.out]
              · refine (F4.out.set (4 * k + u) _).as ?_
                rw [HU.out.1]
                exact HS2.out
            · have HT : Kp (t = 4) := ⟨by omega⟩
              obtain ⟨u, hu⟩ : ∃ u : Int, (3 : Int) - t = u := ⟨_, rfl⟩
              rw [hu]
              have u0 : u < 0 := by omega
              have HF : Kp (Row wr D 37 .u8 (fill 32 (S.bytes.take (4 * (k + 1))))) := by
                have h := F4.out
                rw [HT.out, wst_full S k hlk] at h
                exact ⟨h⟩
              clear HS hu hQ hlt ht F4
              go_wp2_with fail
              exact ⟨⟨k + 1, by omega, by go_num, F1.out, F2.out, F3.out, HF.out⟩, by simp [intOf]; omega⟩
        · have HK8 : Kp (k = 8) := ⟨by omega⟩
          have hge : 8 ≤ (k : Int) := by omega
          have HF : Kp (Row wr D 37 .u8 (digest p)) := by
            have h := G4.out
            rw [HK8.out, List.take_of_length_le (by rw [bytes_len]; omega), fill_full (bytes_len S), HDg.out] at h
            exact ⟨h⟩
          have HC24 := Kp.mk (cells24 (digest_len p))
          have HZ24 : Kp ((kv .u8 (fill 32 [])).toArray.size = (kv .u8 (digest p)).toArray.size) := ⟨by rw [kv_size, kv_size, digest_len]; rfl⟩
          have HR24 := Kp.mk (G2.out.setRow (digest p))
          have HB24 := Kp.mk (Below.row G3.out (g := A) (Nat.le_refl _) (kv .u8 (digest p)).toArray)
          clear hlk hk
          go_wp2_with (first
            | (refine wpList_load_row rfl 37 (.tmp 7) rfl D rfl 37 (kv .u8 (digest p)).toArray (0, 0) _ HF.out Tryd.underlying37 rfl HC24.out ?_)
            | (refine wpList_store_row rfl 37 (.tmp 2) (.tmp 50) rfl A (kv .u8 (digest p)).toArray rfl rfl 37 _ G2.out HC24.out HZ24.out (kv_all _ _) ?_))
          refine bodyPost_ret (v := .agg (kv .u8 (digest p)).toArray) ?_ rfl ⟨rfl, by rw [← HAe.out]; exact HB24.out⟩
          exact results_cell_row rfl _ _ A 37 _ (0, 0) _ rfl HR24.out Tryd.underlying37 rfl HC24.out
end Go.Proofs.YtahmioiefmheeaaDoor

namespace Go.Proofs.YtahmioiefmheeaaDoor
open Go.RowKit

/-- A literal of one byte. -/
theorem ownsRow_one (w : World) (x : Int) : (w.alloc (.cells #[.int .u8 x] 5)).ownsRow w.heap.size 5 1 (.slice (some ⟨w.heap.size, 0, none⟩) 1 1) 1 (bv [x]) :=
  ⟨rfl, .inr ⟨w.heap.size, 1, _, rfl, Nat.le_refl _, heap_alloc_new w _, Nat.le_refl _, by unfold maxLen; omega, rfl, rfl⟩⟩
/-- Bytes of rows of bytes. -/
theorem HoldsP.flat {w : World} {v : Value} {zs : List (List Int)} (h : HoldsP w v zs) : Bytes zs.flatten := by
  obtain ⟨_, _, _, _, h3⟩ := h
  intro x hx
  obtain ⟨l, hl, hx⟩ := List.mem_flatten.1 hx
  obtain ⟨i, hi, rfl⟩ := List.mem_iff_getElem.1 hl
  obtain ⟨_, _, _, _, _, _, _, _, h4⟩ := h3 i hi
  have := h4.bytes
  rw [List.getD_eq_getElem?_getD, List.getElem?_eq_getElem hi] at this
  exact this x hx
set_option maxRecDepth 100000 in
set_option maxHeartbeats 1000000 in
theorem rtext_any (k : Int) (a0 : Option Addr) (n cap : Nat) (zs : List (List Int)) (w : World) (h8 : 0 ≤ k ∧ k ≤ 255) (hp : HoldsP w (.slice a0 n cap) zs) (hlen : 1 + zs.flatten.length ≤ 140737488351400) :
    Calls Tryd.prog 90 #[.int .u8 k, .slice a0 n cap] w fun r w' => ∃ v', r = .returned v' ∧ HoldsB w' w'.heap.size v' (k :: zs.flatten) ∧ (∀ g, v'.ownBlock = some g → w.heap.size ≤ g) ∧ Below w.heap.size w w' := by
  have hl : zs.length = n := by obtain ⟨a', n', c', e, hn⟩ := hp.slice; simp only [Value.slice.injEq] at e; omega
  have hlm : n ≤ maxLen := by obtain ⟨_, _, _, h2, _⟩ := hp; omega
  unfold maxLen at hlm
  have H8 := Kp.mk h8
  have HP := Kp.mk hp
  have HL := Kp.mk hl
  have HLen := Kp.mk hlen
  clear h8 hp hl hlen
  go_enter Tryd.func90, Tryd.ntmps90
  go_wp2_with fail
  obtain ⟨A, hA⟩ : ∃ A, A = w.heap.size := ⟨_, rfl⟩
  have HA := Kp.mk hA
  rw [← hA]
  refine wp_world (fun W => W.ownsRow A 5 1 (.slice (some ⟨A, 0, none⟩) 1 1) 1 (bv [k]) ∧ Below A w W) ⟨by rw [hA]; exact ownsRow_one w k, by rw [hA]; exact more (Below.refl _ _) _⟩ ?_
  rintro W ⟨h1, h2⟩
  have G1 := Kp.mk h1
  have G2 := Kp.mk h2
  clear h1 h2 hA
  go_loopw [5, 6] (fun s5 c wr => ∃ (i N : Nat) (a5 : Option Addr) (c5 : Nat), i ≤ n ∧ c = .int .i64 i ∧ s5 = .slice a5 N c5 ∧ Kp (N = 1 + (zs.take i).flatten.length) ∧ wr.ownsRow A 5 1 (.slice a5 N c5) N (bv (k :: (zs.take i).flatten)) ∧ Below A w wr) (fun _ c _ => n - (intOf c).toNat)
  case atStart => exact ⟨0, 1, _, _, by omega, rfl, rfl, ⟨by simp⟩, by simpa using G1.out, G2.out⟩
  case round =>
    obtain ⟨i, N, a5, c5, hi, rfl, rfl, HNN, h1, h2⟩ := hrel
    clear G1 G2
    have G1 := Kp.mk h1
    have G2 := Kp.mk h2
    have HSz : Kp (A ≤ wr.heap.size) := ⟨by have := h2.size; have := HA.out; omega⟩
    clear h1 h2
    by_cases hlt : i < n
    · obtain ⟨b, off, a1, n1, c1, rfl, hbw, hcell, hp⟩ : ∃ b off a1 n1 c1, a0 = some ⟨b, off, none⟩ ∧ b < w.heap.size ∧ w.cell? ⟨b, off + i, none⟩ = some (.slice a1 n1 c1) ∧ HoldsB w w.heap.size (.slice a1 n1 c1) (zs.getD i []) := by
        obtain ⟨a', cap', e, _, h3⟩ := HP.out
        simp only [Value.slice.injEq] at e
        obtain ⟨rfl, -, -⟩ := e
        obtain ⟨b, off, a1, n1, c1, e1, e2, e3, e4⟩ := h3 i (by rw [HL.out]; exact hlt)
        exact ⟨b, off, a1, n1, c1, e1, e2, e3, e4⟩
      have hc : wr.cell? ⟨b, off + i, none⟩ = some (.slice a1 n1 c1) := (World.cell?_of_block (w := w) (a := ⟨b, off + i, none⟩) (G2.out.block b (by rw [HA.out]; exact hbw))).trans hcell
      have HPp : Kp (HoldsB wr w.heap.size (.slice a1 n1 c1) (zs.getD i [])) := ⟨hp.keep (by rw [← HA.out]; exact G2.out)⟩
      have HFT := Kp.mk (flat_take zs i (by rw [HL.out]; exact hlt))
      have HF2 := Kp.mk (flat_le2 zs i (by rw [HL.out]; exact hlt))
      clear hcell hbw hp
      generalize zs.getD i [] = p at *
      generalize hQ : (zs.take i).flatten = q at *
      have HQq := Kp.mk hQ
      clear hQ
      have hN : N + p.length ≤ 140737488351400 := by have := HF2.out; have := HLen.out; have := HNN.out; omega
      have hNb : N ≤ 140737488351400 := by omega
      have HN2 := Kp.mk hN
      clear hN
      go_wp2_with (at_builtin; refine wpList_append_holds rfl _ _ rfl A _ _ _ rfl G1.out _ _ p rfl HPp.out ?d0 ?d1 ?_)
      case d0 => have := HN2.out; omega
      case d1 => exact HSz.out
      intro v2 w2 ho hg
      have hbel : Below A w w2 := G2.out.trans (below_row_grown (Below.refl _ _) HSz.out G1.out hg)
      obtain ⟨L2, hL2⟩ : ∃ L2, L2 = N + p.length := ⟨_, rfl⟩
      have ho2 : w2.ownsRow A 5 1 v2 L2 (bv (k :: (zs.take (i + 1)).flatten)) := by
        rw [HFT.out, hL2]
        simpa using ho
      obtain ⟨a2, c2, rfl⟩ := row_slice ho2
      have HO2 := Kp.mk ho2
      have HB2 := Kp.mk hbel
      have HL2 : Kp (L2 = 1 + (zs.take (i + 1)).flatten.length) := ⟨by rw [HFT.out, List.length_append]; have := HNN.out; omega⟩
      clear ho hg hbel ho2 hL2 hc
      go_wp2_with fail
      exact ⟨⟨i + 1, L2, a2, c2, by omega, by go_num, rfl, HL2, HO2.out, HB2.out⟩, by simp [intOf]; omega⟩
    · have hge : (n : Int) ≤ i := by omega
      have HO : Kp (HoldsB wr wr.heap.size (.slice a5 N c5) (k :: zs.flatten) ∧ ∀ g, (Value.slice a5 N c5).ownBlock = some g → A ≤ g) := by
        have h := G1.out
        have e0 : zs.take i = zs := List.take_of_length_le (by have := HL.out; omega)
        have hN := HNN.out
        rw [e0] at h hN
        have e : N = (k :: zs.flatten).length := by rw [List.length_cons, hN]; omega
        refine ⟨?_, fun g hg => (h.lt g hg).1⟩
        have h2 := HoldsB.ofRow (l := k :: zs.flatten) (fun x hx => by
          rcases List.mem_cons.1 hx with rfl | hx
          · exact H8.out
          · exact HP.out.flat x hx) (by rw [e] at h; exact h)
        rw [e]
        exact h2
      clear hlt hi
      go_wp2_with fail
      go_ret
      exact ⟨_, rfl, HO.out.1, by rw [← HA.out]; exact HO.out.2, by rw [← HA.out]; exact G2.out⟩
set_option maxRecDepth 100000 in
set_option maxHeartbeats 1000000 in
theorem rshort_any (k : Int) (a0 : Option Addr) (n cap : Nat) (zs : List (List Int)) (w : World) (h8 : 0 ≤ k ∧ k ≤ 255) (hp : HoldsP w (.slice a0 n cap) zs) (hlen : 1 + zs.flatten.length ≤ 140737488351400) :
    Calls Tryd.prog 25 #[.int .u8 k, .slice a0 n cap] w fun r w' => r = .returned (.agg (kv .u8 (shortL (k :: zs.flatten))).toArray) ∧ Below w.heap.size w w' := by
  have H8 := Kp.mk h8
  have HP := Kp.mk hp
  have HLen := Kp.mk hlen
  clear h8 hp hlen
  go_enter Tryd.func25, Tryd.ntmps25
  go_wp2_with fail
  refine calls_world (fun W => Row W w.heap.size 32 .u8 (fill 16 []) ∧ Below w.heap.size w W) ⟨Blk.newAt (w := w) z49 rfl, more (Below.refl _ _) z49⟩ ?_
  rintro w1 ⟨hr, hb⟩
  have HR := Kp.mk hr
  have HB := Kp.mk hb
  clear hr hb
  refine (rtext_any k a0 n cap zs w1 H8.out (HP.out.keep HB.out) HLen.out).mono ?_
  rintro r w2 ⟨v, rfl, h2, h3, h4⟩
  have HH := Kp.mk h2
  have HR2 := Kp.mk (HR.out.keep h4)
  have HB2 : Kp (Below w.heap.size w w2) := ⟨HB.out.trans (h4.mono HB.out.size)⟩
  clear h2 h3 h4
  go_wp2_with fail
  refine (rsum_any _ v (k :: zs.flatten) w2 HH.out (by rw [List.length_cons]; have := HLen.out; omega)).mono ?_
  rintro r w3 ⟨rfl, h5⟩
  have HR3 := Kp.mk (HR2.out.keep h5)
  have HB3 : Kp (Below w.heap.size w w3) := ⟨HB2.out.trans (h5.mono HB2.out.size)⟩
  have HM := Kp.mk (digest_len (k :: zs.flatten))
  obtain ⟨d, hd⟩ : ∃ d, d = digest (k :: zs.flatten) := ⟨_, rfl⟩
  have HD := Kp.mk (show shortL (k :: zs.flatten) = halfL d by rw [hd])
  rw [← hd] at HM ⊢
  clear h5 hd
  go_wp2_with fail
  refine (rhalf_any d w3 HM.out).mono ?_
  rintro r w4 ⟨rfl, h6⟩
  have HR4 := Kp.mk (HR3.out.keep h6)
  have HB4 : Kp (Below w.heap.size w w4) := ⟨HB3.out.trans (h6.mono HB3.out.size)⟩
  have HC := Kp.mk (cells49 (halfL_len HM.out))
  have HZ := Kp.mk (size50 (halfL_len HM.out))
  have HF := Kp.mk (HR4.out.setRow (halfL d))
  have HBf := Kp.mk (Below.row HB4.out (g := w.heap.size) (Nat.le_refl _) (kv .u8 (halfL d)).toArray)
  clear h6
  go_wp2_with (refine wpList_store_row rfl 32 (.tmp 4) (.tmp 9) rfl w.heap.size (kv .u8 (halfL d)).toArray rfl rfl 32 _ HR4.out HC.out HZ.out (kv_all _ _) ?_)
  refine bodyPost_ret (v := .agg (kv .u8 (halfL d)).toArray) ?_ rfl ⟨by rw [HD.out], HBf.out⟩
  exact results_cell_row rfl _ _ w.heap.size 32 _ (0, 0) _ rfl HF.out Tryd.underlying32 rfl HC.out
end Go.Proofs.YtahmioiefmheeaaDoor

namespace Go.Proofs.YtahmioiefmheeaaDoor
open Go.RowKit

/-- append to a row of the call's own, and in which block what comes of it lies. -/
theorem wpList_append_own2 {P : Program} {w : World} {ops : Array Oper} {rest : List Oper} {o : Oper} {a : Act} {Q : Exit → Act → World → Prop} (hgd : o.guard = none) (s x : Operand) (t : TypeId)
    (ho : o.op = .call { callee := .builtin .append, args := #[s, x], argTypes := #[t, t] })
    (base : Nat) (e : TypeId) (i : TypeInfo) (z : Value) (size bytes : Nat) (ht : P.underlying t = some (.slice e)) (hi : P.info? e = some i) (hz : i.zero = some z)
    (hsize : i.size = size) (hby : i.bytes = bytes) (hzs : z.cells.size = size) (hsz : 0 < size)
    (v : Value) (n : Nat) (xs : List Value) (hs : a.eval s = v) (hown : w.ownsRow base e size v n xs)
    (ad : Addr) (m c : Nat) (news : List Value) (hx : a.eval x = .slice (some ad) m c) (hl : news.length = m * size) (hnews : ∀ j u, news[j]? = some u → w.cell? (ad.add j) = some u) (h1 : ∀ u ∈ news, u.oneCell' = true)
    (h63 : n + m ≤ maxLen) (hbytes : (n + m) * bytes ≤ 140737488355328) (hbase : base ≤ w.heap.size)
    (h : ∀ v' w', w'.ownsRow base e size v' (n + m) (xs ++ news) → w.grownBy w' v.ownBlock → (∀ k, v'.ownBlock = some k → v.ownBlock = some k ∨ w.heap.size ≤ k) → wpList P ops Q rest (a.put o.dst v') w') : wpList P ops Q (o :: rest) a w := by
  have hv := hown.2
  rcases hv with ⟨hv, h0⟩ | ⟨g, cap, cur, hv, hg, hh, hn, hc, hsz2, htk⟩
  · subst h0
    have hxs : xs = [] := List.eq_nil_of_length_eq_zero (by simpa using hown.1)
    subst hxs
    refine wpList_plain hgd fun K hK => ?_
    rw [hv] at hs
    obtain ⟨v', w', hrun, r1, r2, _⟩ := run_append_own (P := P) w w.heap.size t o.type e i z size bytes ht hi hz hsize hby hzs hsz (.slice none 0 0) 0 [] (World.ownsRow_nil w _ e size) ad m c news hl hnews h1 h63 hbytes (Nat.le_refl _)
    unfold Oper.wp
    simp [execOp, ho, resolve, invoke, builtin, hs, hx, hrun, Result.andThen]
    refine hK _ _ (h v' w' (ownsRow_base r1 hbase) (by rw [hv]; exact r2) fun k hk => .inr (r1.lt k hk).1)
  · subst hv
    by_cases hroom : n + m ≤ cap
    · refine wpList_append_fits w hgd s x t ho base e i size ht hi hsize g n cap xs hs hown ad m c news hx hl hnews h1 hroom fun w' h2 h3 => ?_
      exact h _ w' h2 h3 fun k hk => .inl hk
    · refine wpList_append_grows w hgd s x t ho e i z size bytes ht hi hz hsize hby hzs hsz (some ⟨g, 0, none⟩) n cap xs hs (fun e => by cases e) hown.1 (fun b hb => by cases hb; exact hown.cells rfl) ad m c news hx hl hnews h1 (by omega) h63 hbytes fun v' w' h2 h3 => ?_
      exact h v' w' (ownsRow_base h2 hbase) ⟨h3.os, h3.tape, h3.output, h3.size, fun k hk _ => h3.block k hk (by simp)⟩ fun k hk => .inr (h2.lt k hk).1

/-- append of bytes that stand somewhere, to a row of the call's own, and in which block what comes of it lies. -/
theorem wpList_append_holds2 {w : World} {ops : Array Oper} {rest : List Oper} {o : Oper} {a : Act} {Q : Exit → Act → World → Prop} (hgd : o.guard = none) (s x : Operand)
    (ho : o.op = .call { callee := .builtin .append, args := #[s, x], argTypes := #[22, 22] })
    (base : Nat) (v : Value) (n : Nat) (xs : List Value) (hs : a.eval s = v) (hown : w.ownsRow base 5 1 v n xs)
    (M : Nat) (u : Value) (p : List Int) (hx : a.eval x = u) (hp : HoldsB w M u p) (h63 : n + p.length ≤ 140737488355328) (hbase : base ≤ w.heap.size)
    (h : ∀ v' w', w'.ownsRow base 5 1 v' (n + p.length) (xs ++ bv p) → w.grownBy w' v.ownBlock → (∀ k, v'.ownBlock = some k → v.ownBlock = some k ∨ w.heap.size ≤ k) → wpList Tryd.prog ops Q rest (a.put o.dst v') w') : wpList Tryd.prog ops Q (o :: rest) a w := by
  obtain ⟨i0, hi, hz0, hz1, hz2⟩ := info_parts info5
  obtain ⟨ad, m, cap, rfl, hm⟩ := hp.slice
  cases ad with
  | none =>
    obtain ⟨a', cap', h1, h2, h3, h4, h5, h6, h7⟩ := hp
    simp only [Value.slice.injEq] at h1
    have hc := h4 h1.1.symm
    have hl : p = [] := List.length_eq_zero_iff.1 (by omega)
    subst hl
    have hx' : a.eval x = .slice none 0 0 := by rw [hx]; simp only [Value.slice.injEq, true_and]; exact ⟨by simpa using hm, by omega⟩
    exact wpList_append_own_none hgd s x 22 ho base 5 i0 1 Tryd.underlying22 hi v n xs hs hown hx' (h v w (by simpa using hown) ⟨rfl, rfl, rfl, Nat.le_refl _, fun _ _ _ => rfl⟩ fun k hk => .inl hk)
  | some ad =>
    refine wpList_append_own2 (w := w) hgd s x 22 ho base 5 i0 (.int .u8 0) 1 1 Tryd.underlying22 hi hz0 hz1 hz2 rfl (by decide) v n xs hs hown ad m cap (bv p) hx (by rw [bv_len]; omega) hp.news (bv_one _) (by unfold maxLen; omega) (by omega) hbase fun v' w' h1 h2 h3 => ?_
    rw [hm] at h1
    exact h v' w' h1 h2 h3
theorem over_succ {l : List Int} {j : Nat} (h : j < l.length) (x : Int) : over (l.take (j + 1)) x = over (l.take j) x ++ [bits .xor .u8 (l.getD j 0) x] := by
  rw [take_succ_get h]
  unfold over
  rw [List.map_append]
  rfl
/-- Two rows of the call's own, in no one block. -/
structure Twin (w : World) (A : Nat) (v u : Value) (n m : Nat) (l k : List Int) : Prop where
  one : w.ownsRow A 5 1 v n (bv l)
  two : w.ownsRow A 5 1 u m (bv k)
  off : ∀ g, v.ownBlock = some g → u.ownBlock ≠ some g
theorem Twin.swap {w : World} {A : Nat} {v u : Value} {n m : Nat} {l k : List Int} (h : Twin w A v u n m l k) : Twin w A u v m n k l := ⟨h.two, h.one, fun g e1 e2 => h.off g e2 e1⟩
theorem Twin.alloc {w : World} {A : Nat} {v u : Value} {n m : Nat} {l k : List Int} (h : Twin w A v u n m l k) (o : Obj) : Twin (w.alloc o) A v u n m l k := ⟨h.one.alloc o, h.two.alloc o, h.off⟩
theorem Twin.step {w w' : World} {A : Nat} {v u v' : Value} {n m : Nat} {l k : List Int} {p : List Int} (h : Twin w A v u n m l k) (h1 : w'.ownsRow A 5 1 v' (n + p.length) (bv l ++ bv p)) (h2 : w.grownBy w' v.ownBlock)
    (h3 : ∀ g, v'.ownBlock = some g → v.ownBlock = some g ∨ w.heap.size ≤ g) : Twin w' A v' u (n + p.length) m (l ++ p) k := by
  refine ⟨by rw [show bv (l ++ p) = bv l ++ bv p by simp]; exact h1, ?_, fun g hg hu => ?_⟩
  · refine h.two.kept (row := v.ownBlock) h2 ?_
    by_cases hu : u.ownBlock = none
    · exact Or.inl hu
    · obtain ⟨g, hg⟩ := Option.ne_none_iff_exists'.1 hu
      exact Or.inr (fun e => h.off g (by rw [← e]; exact hg) hg)
  · rcases h3 g hg with h4 | h4
    · exact h.off g h4 hu
    · have := (h.two.lt g hu).2
      omega
end Go.Proofs.YtahmioiefmheeaaDoor

namespace Go.Proofs.YtahmioiefmheeaaDoor
open Go.RowKit

/-- A number as so many bytes. -/
def numL (x : Int) (k : Nat) : List Int := (List.range k).map fun i => x / 256 ^ (k - 1 - i) % 256
theorem numL_len (x : Int) (k : Nat) : (numL x k).length = k := by simp [numL]
theorem numL_eight (x : Int) : numL x 8 = be64 x := rfl
theorem numL_bytes (x : Int) (k : Nat) : Bytes (numL x k) := by
  intro y hy
  obtain ⟨i, _, rfl⟩ := List.mem_map.1 hy
  omega
/-- What stands behind j rounds. -/
def lowN (x : Int) (k j : Nat) : List Int := List.replicate (k - j) 0 ++ (numL x k).drop (k - j)
theorem lowN_len (x : Int) (k j : Nat) (_h : j ≤ k) : (lowN x k j).length = k := by simp [lowN, numL_len]
theorem lowN_full (x : Int) (k : Nat) : lowN x k k = numL x k := by simp [lowN]
theorem lowN_zero (x : Int) (k : Nat) : lowN x k 0 = List.replicate k 0 := by simp [lowN, List.drop_of_length_le (Nat.le_of_eq (numL_len x k))]
theorem lowN_set (x : Int) (k j : Nat) (h : j < k) : (lowN x k j).set (k - 1 - j) (x / 256 ^ j % 256) = lowN x k (j + 1) := by
  unfold lowN
  have e : k - j = (k - (j + 1)) + 1 := by omega
  rw [e, List.replicate_succ', List.append_assoc, List.set_append_right _ _ (by simp; omega)]
  have e2 : k - 1 - j - (List.replicate (k - (j + 1)) (0 : Int)).length = 0 := by simp; omega
  rw [e2]
  congr 1
  rw [List.singleton_append, List.set_cons_zero, List.drop_eq_getElem_cons (i := k - (j + 1)) (by rw [numL_len]; omega)]
  congr 1
  unfold numL
  rw [List.getElem_map, List.getElem_range, show k - 1 - (k - (j + 1)) = j by omega]
theorem make22 (k : Nat) (h : k = 4 ∨ k = 8) (w : World) : (Instr.makeSlice 22 (.int .i64 k) (.int .i64 k)).run Tryd.prog w = .ok (.slice (some ⟨w.heap.size, 0, none⟩) k k) (w.alloc (.cells (kv .u8 (List.replicate k 0)).toArray 5)) := by
  rcases h with rfl | rfl <;> kernel_rfl
set_option maxRecDepth 100000 in
set_option maxHeartbeats 1000000 in
theorem num_any (x : Int) (k : Nat) (w : World) (hk : k = 4 ∨ k = 8) (h0 : 0 ≤ x) (h1 : x < 18446744073709551616) :
    Calls Tryd.prog 92 #[.int .u64 x, .int .i64 k] w fun r w' => ∃ v', r = .returned v' ∧ HoldsB w' w'.heap.size v' (numL x k) ∧ Below w.heap.size w w' := by
  have hm := make22 k hk
  have k1 : 1 ≤ k := by omega
  have k8 : k ≤ 8 := by omega
  clear hk
  go_enter Tryd.func92, Tryd.ntmps92
  go_wp2_with fail
  obtain ⟨A, hA⟩ : ∃ A, A = w.heap.size := ⟨_, rfl⟩
  have HA := Kp.mk hA
  rw [← hA]
  refine wp_world (fun W => Row W A 5 .u8 (lowN x k 0) ∧ Below A w W) ⟨by rw [lowN_zero]; unfold Row; simpa using Blk.newAt (w := w) (.cells (Array.replicate k (.int .u8 0)) 5) hA, by rw [hA]; exact more (Below.refl _ _) _⟩ ?_
  rintro W ⟨h2, h3⟩
  have G1 := Kp.mk h2
  have G2 := Kp.mk h3
  clear h2 h3 hA hm
  go_loopw [0, 6] (fun q c wr => ∃ j : Nat, j ≤ k ∧ c = .int .i64 ((k : Int) - 1 - j) ∧ q = .int .u64 (x / 256 ^ j) ∧ Row wr A 5 .u8 (lowN x k j) ∧ Below A w wr) (fun _ c _ => (intOf c + 1).toNat)
  case atStart => exact ⟨0, by omega, by simp, by simp, G1.out, G2.out⟩
  case round =>
    obtain ⟨j, hj, rfl, rfl, h2, h3⟩ := hrel
    clear G1 G2
    have G1 := Kp.mk h2
    have G2 := Kp.mk h3
    clear h2 h3
    have q0 : 0 ≤ x / 256 ^ j := Int.ediv_nonneg h0 (Int.pow_nonneg (by decide))
    have q1 : x / 256 ^ j < 18446744073709551616 := Int.lt_of_le_of_lt (Int.ediv_le_self _ h0) h1
    have HQ : Kp (x / 256 ^ j / 256 = x / 256 ^ (j + 1)) := ⟨by rw [Int.ediv_ediv_of_nonneg (Int.pow_nonneg (by decide)), Int.pow_succ]⟩
    have HS := fun h => Kp.mk (lowN_set x k j h)
    generalize hQ : x / 256 ^ j = Q at *
    by_cases hlj : j < k
    · have HS2 := HS hlj
      clear HS
      obtain ⟨i, hi⟩ : ∃ i : Nat, (k : Int) - 1 - j = i := ⟨k - 1 - j, by omega⟩
      have HI : Kp (i = k - 1 - j ∧ i < k) := ⟨by omega⟩
      rw [hi]
      have ik : i < k := by omega
      have i8 : i < 8 := by omega
      have cw := G1.out.cell (i := i) (by rw [lowN_len x k j hj]; exact ik)
      have fw := G1.out.frozen i
      have HHi := Kp.mk hi
      clear hi hQ
      go_wp2_with fail
      refine ⟨⟨j + 1, by omega, ?_, ?_, ?_, G2.out.setCell (by exact Nat.le_refl _) _⟩, by simp [intOf]⟩
      · have := HHi.out
        congr 1
        omega
      · rw [HQ.out]
      · refine (G1.out.set i _).as ?_
        rw [HI.out.1]
        exact HS2.out
    · have HJ : Kp (j = k) := ⟨by omega⟩
      obtain ⟨i, hi⟩ : ∃ i : Int, (k : Int) - 1 - j = i := ⟨_, rfl⟩
      rw [hi]
      have i0 : i < 0 := by omega
      have G4 : Kp (Row wr A 5 .u8 (numL x k)) := by
        have h := G1.out
        rw [HJ.out, lowN_full] at h
        exact ⟨h⟩
      have HH : Kp (HoldsB wr wr.heap.size (.slice (some ⟨A, 0, none⟩) k k) (numL x k)) :=
        ⟨HoldsB.ofRow2 (off := 0) G4.out (numL_len x k).symm (Nat.le_refl _) (by unfold maxLen; omega) (fun i hi => by simp [List.getElem?_eq_getElem hi, List.getD_eq_getElem?_getD]) (numL_bytes x k)⟩
      clear HS hi hQ G1 hlj hj
      go_wp2_with fail
      go_ret
      exact ⟨_, rfl, HH.out, by rw [← HA.out]; exact G2.out⟩
end Go.Proofs.YtahmioiefmheeaaDoor
