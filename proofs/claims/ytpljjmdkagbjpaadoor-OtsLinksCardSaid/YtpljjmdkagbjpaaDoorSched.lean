/-
  The words of a block: sha.schedule.
-/
import Derived.Test.YtpljjmdkagbjpaaDoorArr
import Derived.StillTailTactics
import Derived.BigRegion
namespace Go.Proofs.YtpljjmdkagbjpaaDoor
open Go.RowKit

theorem HoldsB.four {w : World} {M : Nat} {v : Value} {l : List Int} (h : HoldsB w M v l) (hl : l.length = 4) :
    ∃ b off cap x0 x1 x2 x3, v = .slice (some ⟨b, off, none⟩) 4 cap ∧ b < w.heap.size ∧ l = [x0, x1, x2, x3] ∧ w.cell? ⟨b, off, none⟩ = some (.int .u8 x0) ∧ w.cell? ⟨b, off + 1, none⟩ = some (.int .u8 x1) ∧
      w.cell? ⟨b, off + 2, none⟩ = some (.int .u8 x2) ∧ w.cell? ⟨b, off + 3, none⟩ = some (.int .u8 x3) ∧ (0 ≤ x0 ∧ x0 ≤ 255) ∧ (0 ≤ x1 ∧ x1 ≤ 255) ∧ (0 ≤ x2 ∧ x2 ≤ 255) ∧ (0 ≤ x3 ∧ x3 ≤ 255) := by
  obtain ⟨b, off, cap, rfl, _, _, _, hb, hc⟩ := h.open (by omega)
  have hy := h.bytes
  match l, hl with
  | [x0, x1, x2, x3], _ =>
    exact ⟨b, off, cap, x0, x1, x2, x3, rfl, hb, rfl, hc 0 (by simp), hc 1 (by simp), hc 2 (by simp), hc 3 (by simp), hy x0 (by simp), hy x1 (by simp), hy x2 (by simp), hy x3 (by simp)⟩
theorem word_of {l : List Int} {t : Nat} {x0 x1 x2 x3 : Int} (h : (l.drop (4 * t)).take (4 * t + 4 - 4 * t) = [x0, x1, x2, x3]) : word l t = ((x0 * 256 + x1) * 256 + x2) * 256 + x3 := by
  have g : ∀ i, i < 4 → l.getD (4 * t + i) 0 = [x0, x1, x2, x3].getD i 0 := fun i hi => by
    rw [← h, take_getD (by omega), drop_getD]
  have h0 := g 0 (by omega)
  have h1 := g 1 (by omega)
  have h2 := g 2 (by omega)
  have h3 := g 3 (by omega)
  simp only [Nat.add_zero, List.getD_cons_zero, List.getD_cons_succ] at h0 h1 h2 h3
  unfold word
  rw [h0, h1, h2, h3]
theorem or32 (a b : Nat) (i : Nat) (ha : a % 2 ^ i = 0) (h2 : a < 4294967296) (hb : b < 2 ^ i) (h3 : b < 4294967296) : bits .or .u32 (a : Int) (b : Int) = ((a + b : Nat) : Int) := by
  rw [u32_or_nat a b h2 h3, nat_join i a b ha hb]
theorem word_or (x0 x1 x2 x3 : Int) (h0 : 0 ≤ x0 ∧ x0 ≤ 255) (h1 : 0 ≤ x1 ∧ x1 ≤ 255) (h2 : 0 ≤ x2 ∧ x2 ≤ 255) (h3 : 0 ≤ x3 ∧ x3 ≤ 255) :
    bits .or .u32 (bits .or .u32 (bits .or .u32 (x0 * 16777216) (x1 * 65536)) (x2 * 256)) x3 = ((x0 * 256 + x1) * 256 + x2) * 256 + x3 := by
  obtain ⟨a0, rfl⟩ : ∃ n : Nat, x0 = n := ⟨x0.toNat, by omega⟩
  obtain ⟨a1, rfl⟩ : ∃ n : Nat, x1 = n := ⟨x1.toNat, by omega⟩
  obtain ⟨a2, rfl⟩ : ∃ n : Nat, x2 = n := ⟨x2.toNat, by omega⟩
  obtain ⟨a3, rfl⟩ : ∃ n : Nat, x3 = n := ⟨x3.toNat, by omega⟩
  rw [show (a0 : Int) * 16777216 = ((a0 * 16777216 : Nat) : Int) by omega, show (a1 : Int) * 65536 = ((a1 * 65536 : Nat) : Int) by omega, show (a2 : Int) * 256 = ((a2 * 256 : Nat) : Int) by omega]
  rw [or32 _ _ 24 (by omega) (by omega) (by omega) (by omega), or32 _ _ 16 (by omega) (by omega) (by omega) (by omega), or32 _ _ 8 (by omega) (by omega) (by omega) (by omega)]
  omega

theorem words_step (l : List Int) (k : Nat) : (List.range (k + 1)).map (word l) = (List.range k).map (word l) ++ [word l k] := by rw [List.range_succ, List.map_append]; rfl
theorem zeros64 : (kv .u32 (fill 64 ((List.range 0).map (word [])))).toArray = (kv .u32 (fill 64 [])).toArray := rfl
theorem info70 : (Tryd.prog.info? 147).map (·.size) = some 64 := by kernel_rfl
theorem cells70 {l : List Int} (h : l.length = 64) : (Tryd.prog.info? 147).map (·.size) = some (kv .u32 l).toArray.size := by rw [info70, kv_size, h]
set_option maxRecDepth 100000 in
set_option maxHeartbeats 1000000 in
theorem schedule_any (M : Nat) (v : Value) (l : List Int) (w : World) (h : HoldsB w M v l) (hl : l.length = 64) :
    Calls Tryd.prog 99 #[v] w fun r w' => r = .returned (.agg ((sched l 48).map (Value.int .u32)).toArray) ∧ Below w.heap.size w w' := by
  have H := Lib.hid h
  have HL := Lib.hid hl
  clear h hl
  go_enter Tryd.func99, Tryd.ntmps99
  go_wp2_with fail
  go_loopw [9] (fun c wr => ∃ k : Nat, k ≤ 16 ∧ c = .int .i64 k ∧ Row wr (w.heap.size + 1) 147 .u32 (fill 64 ((List.range k).map (word l))) ∧ Row wr w.heap.size 147 .u32 (fill 64 []) ∧ Below w.heap.size w wr) (fun c _ => 16 - (intOf c).toNat)
  case atStart =>
    refine ⟨0, by omega, rfl, ?_, ?_, ?_⟩
    · exact Blk.newAt _ (by simp)
    · exact Blk.old (Blk.newAt _ rfl) _
    · exact more (more (Below.refl _ _) _) _
  case round =>
    obtain ⟨k, hk, rfl, hrow, hres, hbel⟩ := hrel
    have HR := Lib.hid hrow
    have HS := Lib.hid hres
    have HBe := Lib.hid hbel
    clear hrow hres hbel
    by_cases hlt : k < 16
    · obtain ⟨v1, hv1, hh⟩ := (H.out.keep (HBe.out)).mid (i := 4 * k) (j := 4 * k + 4) (by omega) (by have := HL.out; omega)
      obtain ⟨b, off, cap, x0, x1, x2, x3, rfl, hb, he, c0, c1, c2, c3, r0, r1, r2, r3⟩ := hh.four (by have := HL.out; simp; omega)
      have HW := Lib.hid ((word_of he).trans (word_or x0 x1 x2 x3 r0 r1 r2 r3).symm)
      simp only [show ((4 * k + 4 : Nat) : Int) = 4 * (k : Int) + 4 from by omega, show ((4 * k : Nat) : Int) = 4 * (k : Int) from by omega] at hv1
      clear hh he
      go_wp2_with fail
      have k64 : (k : Int) < 64 := by omega
      go_still_tail 24, (by kernel_rfl)
      change wpList _ _ _ _ _ wr.drew
      have HR2 := Lib.hid HR.out.drew
      have HS2 := Lib.hid HS.out.drew
      have HB2 := Lib.hid HBe.out.drew
      clear HR HS HBe c0 c1 c2 c3
      generalize wr.drew = w2 at *
      have cw := (HR2.out.cell (i := k) (by rw [fill_len (by simp; omega)]; omega))
      have fw := HR2.out.frozen k
      go_wp2_with fail
      go_roundw
      case rel =>
        refine ⟨k + 1, by omega, by go_num, ?_, ?_, ?_⟩
        · rw [← HW.out]
          refine (HR2.out.set k (word l k)).as ?_
          rw [words_step, ← fill_set (by simp; omega)]
          simp
        · exact HS2.out.other (by simp) _
        · exact HB2.out.setCell (by simp) _
      case measure => simp [intOf]; omega
    · have HK : Hid (k = 16) := by show _ = _; omega
      have HRk : Hid (Row wr (w.heap.size + 1) 147 .u32 (fill 64 (sched l 0))) := by
        have h := HR.out
        rw [HK.out] at h
        exact h
      have hge : 16 ≤ (k : Int) := by omega
      clear hlt HR hk
      go_wp2_with fail
      clear hge
      go_loopw [44] (fun c wq => ∃ k : Nat, k ≤ 48 ∧ c = .int .i64 k ∧ Row wq (w.heap.size + 1) 147 .u32 (fill 64 (sched l k)) ∧ Row wq w.heap.size 147 .u32 (fill 64 []) ∧ Below w.heap.size w wq) (fun c _ => 48 - (intOf c).toNat)
      case atStart => exact ⟨0, by omega, rfl, HRk.out, HS.out, HBe.out⟩
      case round =>
        obtain ⟨j, hk2, rfl, hrow, hres, hbel⟩ := hrel
        have HR1 := Lib.hid hrow
        have HS1 := Lib.hid hres
        have HBe1 := Lib.hid hbel
        clear hrow hres hbel HRk HS HBe
        by_cases hlt : j < 48
        · have hsl := sched_len l j
          have cell : ∀ i, i < 16 + j → wr.cell? ⟨w.heap.size + 1, i, none⟩ = some (.int .u32 ((sched l j).getD i 0)) := fun i hi => by
            rw [HR1.out.cell (i := i) (by rw [fill_len (by omega)]; omega), fill_get (by omega)]
          have c0 := cell j (by omega)
          have c1 := cell (j + 1) (by omega)
          have c9 := cell (j + 9) (by omega)
          have c14 := cell (j + 14) (by omega)
          clear cell
          have hst : sched l (j + 1) = sched l j ++ [w32 (w32 (w32 ((sched l j).getD j 0 + sm0 ((sched l j).getD (j + 1) 0)) + (sched l j).getD (j + 9) 0) + sm1 ((sched l j).getD (j + 14) 0))] := rfl
          generalize (sched l j).getD j 0 = y0 at *
          generalize (sched l j).getD (j + 1) 0 = y1 at *
          generalize (sched l j).getD (j + 9) 0 = y9 at *
          generalize (sched l j).getD (j + 14) 0 = y14 at *
          have HT := Lib.hid hst
          have HN := Lib.hid hsl
          clear hst hsl
          have k48 : (j : Int) < 48 := by omega
          go_wp2_with fail
          go_quiet (fail)
          go_wp2_with fail
          refine (rotl _ 7 (-7) _ (by decide) (by decide) (by decide)).mono ?_
          rintro r w1 ⟨rfl, rfl⟩
          go_wp2_with fail
          refine (rotl _ 18 (-18) _ (by decide) (by decide) (by decide)).mono ?_
          rintro r w1 ⟨rfl, rfl⟩
          go_wp2_with fail
          refine (rotl _ 17 (-17) _ (by decide) (by decide) (by decide)).mono ?_
          rintro r w1 ⟨rfl, rfl⟩
          go_wp2_with fail
          refine (rotl _ 19 (-19) _ (by decide) (by decide) (by decide)).mono ?_
          rintro r w1 ⟨rfl, rfl⟩
          go_wp2_with fail
          have HR2 := Lib.hid (HR1.out.drewN nq)
          have HS2 := Lib.hid (HS1.out.drewN nq)
          have HB2 := Lib.hid (below_drewN HBe1.out nq)
          have d0 : (wr.drewN nq).cell? ⟨w.heap.size + 1, j, none⟩ = some (.int .u32 y0) := c0
          have d9 : (wr.drewN nq).cell? ⟨w.heap.size + 1, j + 9, none⟩ = some (.int .u32 y9) := c9
          clear HR1 HS1 HBe1 c0 c1 c9 c14
          generalize wr.drewN nq = w1 at *
          have e16 : IntKind.i64.wrap ((j : Int) + 16) = (j : Int) + 16 := IntWalk.i64_in _ (by omega)
          have e9 : IntKind.i64.wrap ((j : Int) + 9) = (j : Int) + 9 := IntWalk.i64_in _ (by omega)
          have a0 : (j : Int) < 64 := by omega
          have a9 : (j : Int) + 9 < 64 := by omega
          have a16 : (j : Int) + 16 < 64 := by omega
          have p9 : 0 ≤ (j : Int) + 9 := by omega
          have p16 : 0 ≤ (j : Int) + 16 := by omega
          have n9 : ((j : Int) + 9).toNat = j + 9 := by omega
          have n16 : ((j : Int) + 16).toNat = j + 16 := by omega
          go_still_tail 15, (by kernel_rfl)
          clear e16 e9 p9 p16 n9 n16 a0 a9 d0 d9
          change wpList _ _ _ _ _ w1.drew
          have HR3 := Lib.hid HR2.out.drew
          have HS3 := Lib.hid HS2.out.drew
          have HB3 := Lib.hid HB2.out.drew
          clear HR2 HS2 HB2
          generalize w1.drew = w2 at *
          have cw := (HR3.out.cell (i := j + 16) (by rw [fill_len (by have := HN.out; omega)]; omega))
          have fw := HR3.out.frozen (j + 16)
          go_wp2_with fail
          go_roundw
          case rel =>
            refine ⟨j + 1, by omega, by go_num, ?_, ?_, ?_⟩
            · refine (HR3.out.set (j + 16) _).as ?_
              have h2 := fill_set (n := 64) (l := sched l j) (by have := HN.out; omega) (w32 (w32 (w32 (y0 + sm0 y1) + y9) + sm1 y14))
              rw [HT.out, ← h2, HN.out, Nat.add_comm 16 j]
              congr 1
              unfold w32 sm0 sm1
              simp only [w32_mod]
              omega
            · exact HS3.out.other (by simp) _
            · exact HB3.out.setCell (by simp) _
          case measure => simp [intOf]; omega
        · obtain rfl : j = 48 := by omega
          clear hlt
          have hf : fill 64 (sched l 48) = sched l 48 := fill_full (by rw [sched_len])
          have HR2 : Hid (Row wr (w.heap.size + 1) 147 .u32 (sched l 48)) := HR1.out.as hf
          have HC := Lib.hid (cells70 (l := sched l 48) (by rw [sched_len]))
          have HR3 := Lib.hid ((HS1.out.setRow (sched l 48)))
          have hsz := HS1.out.lt
          have HZ : Hid ((kv .u32 (fill 64 [])).toArray.size = (kv .u32 (sched l 48)).toArray.size) := by show _ = _; rw [kv_size, kv_size, sched_len]; rfl
          have HB3 := Lib.hid (Below.row HBe1.out (g := w.heap.size) (Nat.le_refl _) (kv .u32 (sched l 48)).toArray)
          clear hf HR1 hsz
          go_wp2_with (first
            | (refine wpList_load_row rfl 147 (.tmp 3) rfl (w.heap.size + 1) rfl 147 (kv .u32 (sched l 48)).toArray (0, 0) _ HR2.out Tryd.underlying147 rfl HC.out ?_)
            | (refine wpList_store_row rfl 147 (.tmp 2) (.tmp 87) rfl w.heap.size (kv .u32 (sched l 48)).toArray rfl rfl 147 _ HS1.out HC.out HZ.out (kv_all _ _) ?_))
          refine bodyPost_ret (v := .agg (kv .u32 (sched l 48)).toArray) ?_ rfl ⟨rfl, HB3.out⟩
          exact results_cell_row rfl _ _ w.heap.size 147 _ (0, 0) _ rfl HR3.out Tryd.underlying147 rfl HC.out
end Go.Proofs.YtpljjmdkagbjpaaDoor
