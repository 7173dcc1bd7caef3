/-
  The document's Sum, walked.
-/
import Derived.Test.YtpljjmdkagbjpaaDoorRSum
namespace Go.Proofs.YtpljjmdkagbjpaaDoor
open Go.RowKit

theorem info24 : (Tryd.prog.info? 35).map (·.size) = some 32 := by kernel_rfl
theorem cells24 {l : List Int} (h : l.length = 32) : (Tryd.prog.info? 35).map (·.size) = some (kv .u8 l).toArray.size := by rw [info24, kv_size, h]
abbrev z24 : Obj := .cells (kv .u8 (fill 32 [])).toArray 35
set_option maxRecDepth 100000 in
set_option maxHeartbeats 2000000 in
theorem rsum_any (M : Nat) (v : Value) (p : List Int) (w : World) (h : HoldsB w M v p) (hlen : p.length ≤ 140737488351400) :
    Calls Tryd.prog 72 #[v] w fun r w' => r = .returned (.agg (kv .u8 (digest p)).toArray) ∧ Below w.heap.size w w' := by
  have H := Kp.mk h
  have HL := Kp.mk hlen
  have HPb := Kp.mk h.bytes
  clear h hlen
  go_enter Tryd.func72, Tryd.ntmps72
  go_wp2_with fail
  refine calls_world (fun W => Row W w.heap.size 35 .u8 (fill 32 []) ∧ Below w.heap.size w W) ⟨Blk.newAt (w := w) z24 rfl, more (Below.refl _ _) z24⟩ ?_
  rintro w1 ⟨h1, h2⟩
  have H1 := Kp.mk h1
  have H2 := Kp.mk h2
  clear h1 h2
  refine (pad_any M v p w1 (H.out.keep H2.out) HL.out).mono ?_
  rintro r w2 ⟨v1, rfl, ho, hb⟩
  obtain ⟨L, hL⟩ : ∃ L, L = (pad p).length := ⟨_, rfl⟩
  have hpb : Bytes (pad p) := by
    unfold pad
    rw [← tl_full]
    exact HPb.out.append (tl_bytes _ _)
  have hh : HoldsB w2 w2.heap.size v1 (pad p) := HoldsB.ofRow hpb ho
  rw [← hL] at ho
  obtain ⟨a1, c1, rfl⟩ := row_slice ho
  have HP := Kp.mk hh
  have HLe := Kp.mk hL
  have G1 : Kp (Row w2 w.heap.size 35 .u8 (fill 32 [])) := ⟨H1.out.keep hb⟩
  have G2 : Kp (Below w.heap.size w w2) := ⟨H2.out.trans (hb.mono H2.out.size)⟩
  clear ho hb hh hpb hL H1 H2
  go_wp2_with fail
  refine (first_any w2).mono ?_
  rintro r w3 ⟨rfl, hb⟩
  have HP3 := Kp.mk (HP.out.keep hb)
  have F1 := Kp.mk (G1.out.keep hb)
  have F2 : Kp (Below w.heap.size w w3) := ⟨G2.out.trans (hb.mono G2.out.size)⟩
  have HC8 := Kp.mk (cells68 (list_len first))
  have HS8 := Kp.mk (size8 (list_len first))
  clear hb HP G1 G2
  go_wp2_with (refine wpList_store_row rfl 142 (.tmp 4) (.tmp 13) rfl w3.heap.size (kv .u32 first.list).toArray rfl rfl 142 _ (Blk.new w3 z68) HC8.out HS8.out (kv_all _ _) ?_)
  obtain ⟨Hb, hHb⟩ : ∃ Hb, Hb = w3.heap.size := ⟨_, rfl⟩
  rw [← hHb]
  refine calls_world (fun W => Row W Hb 142 .u32 first.list ∧ Row W w.heap.size 35 .u8 (fill 32 []) ∧ Below w.heap.size w W ∧ HoldsX W Hb (.slice a1 L c1) (pad p) ∧ Hb < W.heap.size)
    ⟨Row.setRow (k := .u32) (l := fill 8 []) (Blk.newAt z68 hHb) _, Row.otherRow (F1.out.alloc z68) (by have := F1.out.lt; omega) _, Below.row (more F2.out z68) (by have := F2.out.size; omega) _,
     (HP3.out.apart (more (Below.refl _ _) z68) (by omega)).turn (Turn.row (Turn.same (Blk.newAt z68 hHb)) _), by simp [hHb]⟩ ?_
  rintro w4 ⟨h1, h2, h3, h4, h5⟩
  have hAH : Kp (w.heap.size < Hb) := ⟨by rw [hHb]; exact F1.out.lt⟩
  refine (kon_any w4).mono ?_
  rintro r w5 ⟨rfl, hb⟩
  have E1 := Kp.mk (h1.keep hb)
  have E2 := Kp.mk (h2.keep hb)
  have E3 : Kp (Below w.heap.size w w5) := ⟨h3.trans (hb.mono h3.size)⟩
  have E4 := Kp.mk (h4.keep hb)
  have HC7 := Kp.mk (cells70 kon_len)
  have HS7 : Kp ((kv .u32 (fill 64 [])).toArray.size = (kv .u32 kon).toArray.size) := ⟨by rw [kv_size, kv_size, kon_len]; rfl⟩
  clear h1 h2 h3 h4 h5 hb F1 F2 HP3 hHb
  go_wp2_with (refine wpList_store_row rfl 147 (.tmp 5) (.tmp 14) rfl w5.heap.size (kv .u32 kon).toArray rfl rfl 147 _ (Blk.new w5 z70) HC7.out HS7.out (kv_all _ _) ?_)
  obtain ⟨Kb, hKb⟩ : ∃ Kb, Kb = w5.heap.size := ⟨_, rfl⟩
  obtain ⟨A, hA⟩ : ∃ A, A = w.heap.size := ⟨_, rfl⟩
  have HAe := Kp.mk hA
  rw [← hKb]
  rw [← hA] at E2 E3 hAH ⊢
  obtain ⟨q, hq⟩ : ∃ q, q = blocks p.length := ⟨_, rfl⟩
  have hLq : L = 64 * q := by rw [HLe.out, pad_len, hq]
  have HQ := Kp.mk hq
  have HLq := Kp.mk hLq
  have hz63 : zeros p.length ≤ 63 := by unfold zeros; omega
  have hzb := zeros_blocks p.length
  have hLb : L ≤ 140737488355328 := by rw [hLq, hq, hzb]; have := HL.out; omega
  clear hz63 hzb
  refine wp_world (fun W => Row W Hb 142 .u32 (absorb (pad p) 0).list ∧ Row W Kb 147 .u32 kon ∧ Row W A 35 .u8 (fill 32 []) ∧ HoldsX W Hb (.slice a1 L c1) (pad p) ∧ Below A w W)
    ⟨Row.otherRow (E1.out.alloc _) (by have := E1.out.lt; omega) _, Row.setRow (k := .u32) (l := fill 64 []) (Blk.newAt z70 hKb) _, Row.otherRow (E2.out.alloc _) (by have := E2.out.lt; omega) _,
     E4.out.keep (Below.row (more (Below.refl _ _) z70) (g := Kb) (by rw [hKb]; exact Nat.le_refl _) _), Below.row (E3.out.alloc (by rw [hA]; exact E3.out.size) _) (by have := E3.out.size; omega) _⟩ ?_
  rintro w6 ⟨h1, h2, h3, h4, h5⟩
  have D1 := Kp.mk h1
  have D2 := Kp.mk h2
  have D3 := Kp.mk h3
  have D4 := Kp.mk h4
  have D5 := Kp.mk h5
  have HAK : Kp (A < Kb ∧ Hb < Kb) := ⟨by rw [hKb]; exact ⟨E2.out.lt, E1.out.lt⟩⟩
  clear h1 h2 h3 h4 h5 E1 E2 E3 E4 hKb hq hLq hA
  go_wp2_with fail
  go_loopw [6] (fun c wr => ∃ i n : Nat, i ≤ q ∧ Kp (n = 64 * i) ∧ c = .int .i64 n ∧ Row wr Hb 142 .u32 (absorb (pad p) i).list ∧ Row wr Kb 147 .u32 kon ∧ Row wr A 35 .u8 (fill 32 []) ∧ HoldsX wr Hb (.slice a1 L c1) (pad p) ∧ Below A w wr) (fun c _ => L - (intOf c).toNat)
  case atStart => exact ⟨0, 0, by omega, ⟨rfl⟩, rfl, D1.out, D2.out, D3.out, D4.out, D5.out⟩
  case round =>
    obtain ⟨i, n, hi, Hn, rfl, h1, h2, h3, h4, h5⟩ := hrel
    have G1 := Kp.mk h1
    have G2 := Kp.mk h2
    have G3 := Kp.mk h3
    have G4 := Kp.mk h4
    have G5 := Kp.mk h5
    clear h1 h2 h3 h4 h5 D1 D2 D3 D4 D5
    by_cases hlt : n < L
    · have hiq : i < q := by have := Hn.out; have := HLq.out; omega
      have HIQ := Kp.mk hiq
      obtain ⟨v2, hv2, hh2⟩ := G4.out.h.mid (i := n) (j := n + 64) (by omega) (by rw [← HLe.out]; have := Hn.out; have := HLq.out; omega)
      simp only [show ((n + 64 : Nat) : Int) = (n : Int) + 64 from by omega] at hv2
      have HH2 := Kp.mk hh2
      have HC8b := Kp.mk (show (Tryd.prog.info? 142).map (·.size) = some (kv .u32 (absorb (pad p) i).list).length by rw [List.length_map, list_len]; exact info68')
      have HC7b := Kp.mk (show (Tryd.prog.info? 147).map (·.size) = some (kv .u32 kon).length by rw [List.length_map, kon_len]; exact info70)
      have e64 : IntKind.i64.wrap ((n : Int) + 64) = (n : Int) + 64 := IntWalk.i64_in _ (by omega)
      have hnL : (n : Int) < L := by omega
      clear hh2 hiq hi
      go_wp2_with fail
      refine wp_region_still_tail 7 (by kernel_rfl) (by kernel_rfl) ?_
      simp only [List.take_succ_cons, List.take_zero, List.drop_succ_cons, List.drop_zero]
      refine still_load_mid rfl 142 (.tmp 4) rfl Hb 0 rfl (kv .u32 (absorb (pad p) i).list) _ (Row.range G1.out.drew) Tryd.underlying142 rfl HC8b.out ?_
      iterate 5 still_step
      refine still_load_mid rfl 147 (.tmp 5) rfl Kb 0 rfl (kv .u32 kon) _ (Row.range G2.out.drew) Tryd.underlying147 rfl HC7b.out ?_
      refine wpStill_nil ?_
      clear hv2 e64
      refine wpl_world (fun W => Row W Hb 142 .u32 (absorb (pad p) i).list ∧ Row W Kb 147 .u32 kon ∧ Row W A 35 .u8 (fill 32 []) ∧ HoldsX W Hb (.slice a1 L c1) (pad p) ∧ Below A w W ∧ HoldsB W W.heap.size v2 (((pad p).drop n).take (n + 64 - n)))
        ⟨G1.out.drew, G2.out.drew, G3.out.drew, ⟨G4.out.h.drew, G4.out.x⟩, G5.out.drew, HH2.out.drew⟩ ?_
      rintro w7 ⟨h1, h2, h3, h4, h5, h6⟩
      have F1 := Kp.mk h1
      have F2 := Kp.mk h2
      have F3 := Kp.mk h3
      have F4 := Kp.mk h4
      have F5 := Kp.mk h5
      have F6 := Kp.mk h6
      clear h1 h2 h3 h4 h5 h6 G1 G2 G3 G4 G5
      go_wp2_with fail
      refine (rblock_any _ (absorb (pad p) i) _ _ w7 F6.out (by rw [List.length_take, List.length_drop, ← HLe.out]; have := Hn.out; have := HLq.out; have := HIQ.out; omega)).mono ?_
      rintro r w8 ⟨rfl, hb⟩
      have HBk : Kp (block (absorb (pad p) i) (((pad p).drop n).take (n + 64 - n)) = absorb (pad p) (i + 1)) := ⟨by rw [Nat.add_sub_cancel_left, Hn.out]; rfl⟩
      rw [HBk.out]
      have P1 := Kp.mk (F1.out.keep hb)
      have P2 := Kp.mk (F2.out.keep hb)
      have P3 := Kp.mk (F3.out.keep hb)
      have P4 := Kp.mk (F4.out.keep hb)
      have P5 : Kp (Below A w w8) := ⟨F5.out.trans (hb.mono (Nat.le_of_lt F3.out.lt))⟩
      have HC9 := Kp.mk (cells68 (list_len (absorb (pad p) (i + 1))))
      have HS9 : Kp ((kv .u32 (absorb (pad p) i).list).toArray.size = (kv .u32 (absorb (pad p) (i + 1)).list).toArray.size) := ⟨by rw [kv_size, kv_size]; rfl⟩
      clear hb
      go_wp2_with (refine wpList_store_row rfl 142 (.tmp 4) (.tmp 28) rfl Hb (kv .u32 (absorb (pad p) (i + 1)).list).toArray rfl rfl 142 _ P1.out HC9.out HS9.out (kv_all _ _) ?_)
      refine ⟨⟨i + 1, n + 64, ?_, ⟨?_⟩, by go_num, P1.out.setRow _, P2.out.otherRow (by have := HAK.out; omega) _, P3.out.otherRow (by have := hAH.out; omega) _, P4.out.turn (Turn.row (Turn.same P1.out) _), Below.row P5.out (by have := hAH.out; omega) _⟩, by simp [intOf]; omega⟩
      · have := HIQ.out; omega
      · have := Hn.out; omega
    · have HI : Kp (i = q) := ⟨by have := Hn.out; have := HLq.out; omega⟩
      have hge : (L : Int) ≤ n := by omega
      have HSum : Kp (Row wr Hb 142 .u32 (sumSt p).list) := by
        have h := G1.out
        rw [HI.out, HQ.out] at h
        exact ⟨h⟩
      have HR := Kp.mk (sum_range p)
      have HDg : Kp ((sumSt p).bytes = digest p) := ⟨rfl⟩
      have hnL : ¬ ((n : Int) < L) := by omega
      clear hlt hi G1 G2 G4
      obtain ⟨D, hD⟩ : ∃ D, D = wr.heap.size := ⟨_, rfl⟩
      generalize sumSt p = S at *
      go_wp2_with fail
      rw [← hD]
      refine wp_world (fun W => Row W Hb 142 .u32 S.list ∧ Row W A 35 .u8 (fill 32 []) ∧ Below A w W ∧ Row W D 35 .u8 (fill 32 (S.bytes.take (4 * 0)))) ⟨HSum.out.alloc _, G3.out.alloc _, G5.out.alloc (Nat.le_of_lt G3.out.lt) _, Blk.newAt z24 hD⟩ ?_
      have HAD : Kp (A < D ∧ Hb < D) := ⟨by rw [hD]; exact ⟨G3.out.lt, HSum.out.lt⟩⟩
      rintro w9 ⟨h1, h2, h3, h4⟩
      have D1 := Kp.mk h1
      have D2 := Kp.mk h2
      have D3 := Kp.mk h3
      have D4 := Kp.mk h4
      clear h1 h2 h3 h4 hD hge hnL HSum G3 G5
      go_wp2_with fail
      go_loopw [8] (fun c wr => ∃ i : Nat, i ≤ 8 ∧ c = .int .i64 i ∧ Row wr Hb 142 .u32 S.list ∧ Row wr A 35 .u8 (fill 32 []) ∧ Below A w wr ∧ Row wr D 35 .u8 (fill 32 (S.bytes.take (4 * i)))) (fun c _ => 8 - (intOf c).toNat)
      case atStart => exact ⟨0, by omega, rfl, D1.out, D2.out, D3.out, D4.out⟩
      case round =>
        obtain ⟨k, hk, rfl, h1, h2, h3, h4⟩ := hrel
        have G1 := Kp.mk h1
        have G2 := Kp.mk h2
        have G3 := Kp.mk h3
        have G4 := Kp.mk h4
        clear h1 h2 h3 h4 D1 D2 D3 D4
        by_cases hlk : k < 8
        · have ch := G1.out.cell (i := k) (by rw [list_len]; exact hlk)
          have hx := HR.out k hlk
          generalize hX : S.list.getD k 0 = X at *
          have HX := Kp.mk hX
          obtain ⟨hx0, hx1⟩ := hx
          have k8 : (k : Int) < 8 := by omega
          clear hX
          go_wp2_with fail
          clear ch
          go_loopw [9, 10] (fun xq c wr => ∃ t : Nat, t ≤ 4 ∧ c = .int .i64 ((3 : Int) - t) ∧ xq = .int .u32 (X / 256 ^ t) ∧ Row wr Hb 142 .u32 S.list ∧ Row wr A 35 .u8 (fill 32 []) ∧ Below A w wr ∧ Row wr D 35 .u8 (wst S k t)) (fun _ c _ => (intOf c + 1).toNat)
          case atStart => exact ⟨0, by omega, rfl, by simp, G1.out, G2.out, G3.out, by rw [wst_zero S k hlk]; exact G4.out⟩
          case round =>
            obtain ⟨t, ht, rfl, rfl, h1, h2, h3, h4⟩ := hrel
            have F1 := Kp.mk h1
            have F2 := Kp.mk h2
            have F3 := Kp.mk h3
            have F4 := Kp.mk h4
            clear h1 h2 h3 h4 G1 G2 G3 G4
            have q0 : 0 ≤ X / 256 ^ t := Int.ediv_nonneg hx0 (Int.pow_nonneg (by decide))
            have q1 : X / 256 ^ t < 4294967296 := Int.lt_of_le_of_lt (Int.ediv_le_self _ hx0) hx1
            have HQd : Kp (X / 256 ^ t / 256 = X / 256 ^ (t + 1)) := ⟨by rw [Int.ediv_ediv_of_nonneg (Int.pow_nonneg (by decide)), Int.pow_succ]⟩
            have HS := fun h => Kp.mk (wst_set S k t hlk h)
            rw [HX.out] at HS
            generalize hQ : X / 256 ^ t = Q at *
            by_cases hlt : t < 4
            · have HS2 := HS hlt
              clear HS
              obtain ⟨u, hu⟩ : ∃ u : Nat, (3 : Int) - t = u := ⟨3 - t, by omega⟩
              have HU : Kp (u = 3 - t ∧ u < 4) := ⟨by omega⟩
              rw [hu]
              have u4 : u < 4 := by omega
              have cw := F4.out.cell (i := 4 * k + u) (by rw [wst_len S k t hlk ht]; omega)
              have fw := F4.out.frozen (4 * k + u)
              have HHu := Kp.mk hu
              clear hu hQ
              go_wp2_with fail
              refine ⟨⟨t + 1, by omega, ?_, ?_, F1.out.other (by show D ≠ Hb; have := HAD.out; omega) _, F2.out.other (by show D ≠ A; have := HAD.out; omega) _, F3.out.setCell (by show A ≤ D; have := HAD.out; omega) _, ?_⟩, by simp [intOf]⟩
              · have := HHu.out
                congr 1
                omega
              · rw [HQd.out]
              · refine (F4.out.set (4 * k + u) _).as ?_
                rw [HU.out.1]
                exact HS2.out
            · have HT : Kp (t = 4) := ⟨by omega⟩
              obtain ⟨u, hu⟩ : ∃ u : Int, (3 : Int) - t = u := ⟨_, rfl⟩
              rw [hu]
              have u0 : u < 0 := by omega
              have HF : Kp (Row wr D 35 .u8 (fill 32 (S.bytes.take (4 * (k + 1))))) := by
                have h := F4.out
                rw [HT.out, wst_full S k hlk] at h
                exact ⟨h⟩
              clear HS hu hQ hlt ht F4
              go_wp2_with fail
              exact ⟨⟨k + 1, by omega, by go_num, F1.out, F2.out, F3.out, HF.out⟩, by simp [intOf]; omega⟩
        · have HK8 : Kp (k = 8) := ⟨by omega⟩
          have hge : 8 ≤ (k : Int) := by omega
          have HF : Kp (Row wr D 35 .u8 (digest p)) := by
            have h := G4.out
            rw [HK8.out, List.take_of_length_le (by rw [bytes_len]; omega), fill_full (bytes_len S), HDg.out] at h
            exact ⟨h⟩
          have HC24 := Kp.mk (cells24 (digest_len p))
          have HZ24 : Kp ((kv .u8 (fill 32 [])).toArray.size = (kv .u8 (digest p)).toArray.size) := ⟨by rw [kv_size, kv_size, digest_len]; rfl⟩
          have HR24 := Kp.mk (G2.out.setRow (digest p))
          have HB24 := Kp.mk (Below.row G3.out (g := A) (Nat.le_refl _) (kv .u8 (digest p)).toArray)
          clear hlk hk
          go_wp2_with (first
            | (refine wpList_load_row rfl 35 (.tmp 7) rfl D rfl 35 (kv .u8 (digest p)).toArray (0, 0) _ HF.out Tryd.underlying35 rfl HC24.out ?_)
            | (refine wpList_store_row rfl 35 (.tmp 2) (.tmp 50) rfl A (kv .u8 (digest p)).toArray rfl rfl 35 _ G2.out HC24.out HZ24.out (kv_all _ _) ?_))
          refine bodyPost_ret (v := .agg (kv .u8 (digest p)).toArray) ?_ rfl ⟨rfl, by rw [← HAe.out]; exact HB24.out⟩
          exact results_cell_row rfl _ _ A 35 _ (0, 0) _ rfl HR24.out Tryd.underlying35 rfl HC24.out
end Go.Proofs.YtpljjmdkagbjpaaDoor
