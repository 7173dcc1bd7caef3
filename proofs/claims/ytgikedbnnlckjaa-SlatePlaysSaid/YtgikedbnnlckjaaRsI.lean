/-
  The law SlatePlays, walked.
-/
import Derived.Test.YtgikedbnnlckjaaRsH
namespace Go.Proofs.Ytgikedbnnlckjaa
open Go.RowKit

theorem Two.self {B g M : Nat} {w0 w : World} {v v1 v2 : Value} {s : SlS} {r : RlS} (h : Two B g M w0 w v v1 v2 s r) : Two B g M w w v v1 v2 s r := ⟨h.is, h.ir, h.bg, h.bM, Below.refl _ _⟩
set_option maxRecDepth 100000 in
set_option maxHeartbeats 8000000 in
theorem slatePlays_walk (n : Int) (a : Option Addr) (len cap : Nat) (ol : List OpV) (at_ : Int) (w : World) (hn : (Lit.int .i64 n).wf = true) (ho : IsOps w a len ol) (ha : (Lit.int .i64 at_).wf = true) :
    Calls Try.prog 3 #[.int .i64 n, .slice a len cap, .int .i64 at_] w fun e w' => e = .returned (.bool true) ∧ Below w.heap.size w w' := by
  have HO := Kp.mk ho
  have hmax := ho.max
  unfold maxLen at hmax
  clear ho ha hn
  by_cases hbad : n < 1 ∨ 4096 < n
  · have hno := fun w => new_no n w hbad
    rcases hbad with hb | hb
    · go_enter Try.func3, Try.ntmps3
      go_wp2_with fail
      refine (hno _).mono ?_
      rintro q w1 ⟨rfl, rfl⟩
      go_wp2_with fail
      refine (awake_any _).mono ?_
      rintro q w2 ⟨rfl, hb2⟩
      have HB := Kp.mk hb2
      clear hb2
      go_wp2_with fail
      go_ret
      exact ⟨rfl, HB.out⟩
    · have hb' : ¬ n < 1 := by omega
      go_enter Try.func3, Try.ntmps3
      go_wp2_with fail
      refine (hno _).mono ?_
      rintro q w1 ⟨rfl, rfl⟩
      go_wp2_with fail
      refine (awake_any _).mono ?_
      rintro q w2 ⟨rfl, hb2⟩
      have HB := Kp.mk hb2
      clear hb2
      go_wp2_with fail
      go_ret
      exact ⟨rfl, HB.out⟩
  · obtain ⟨m, rfl⟩ : ∃ m : Nat, n = m := ⟨n.toNat, by omega⟩
    have hm1 : ¬ (m : Int) < 1 := by omega
    have hm2 : ¬ (4096 : Int) < (m : Int) := by omega
    have hnew := new_any m w (by omega) (by omega)
    have HM4 : Kp (m ≤ 4096) := ⟨by omega⟩
    clear hbad
    go_enter Try.func3, Try.ntmps3
    go_wp2_with fail
    refine hnew.mono ?_
    rintro q w1 ⟨rfl, h1, hb1⟩
    have H1 := Kp.mk h1
    have HB1 := Kp.mk hb1
    clear h1 hb1 hnew
    go_wp2_with fail
    refine (awake_any _).mono ?_
    rintro q w2 ⟨rfl, hb2⟩
    have H2 : Kp (SlIs w2 w.heap.size (.slice none 0 0) (newS m)) := ⟨H1.out.keep hb2⟩
    have HB2 : Kp (Below w.heap.size w w2) := ⟨HB1.out.trans (hb2.mono HB1.out.size)⟩
    clear hb2 H1 HB1
    go_wp2_with fail
    refine (rnew_any m _ HM4.out).mono ?_
    rintro q w3 ⟨rfl, hr3, hb3⟩
    obtain ⟨B, hB⟩ : ∃ B, B = w.heap.size := ⟨_, rfl⟩
    have HBe := Kp.mk hB
    obtain ⟨M, hM⟩ : ∃ M, M = w2.heap.size := ⟨_, rfl⟩
    have HT : Kp (Two B B M w w3 (.slice none 0 0) (.slice none 0 0) (.slice none 0 0) (newS m) (rNew m)) := ⟨by
      rw [hB, hM]
      exact ⟨H2.out.keep hb3, hr3, Nat.le_refl _, HB2.out.size, HB2.out.trans (hb3.mono HB2.out.size)⟩⟩
    rw [← hB, ← hM]
    clear hr3 hb3 hB hM H2 HB2
    go_wp2_with fail
    go_loopw [50] (fun i wr => ∃ (k : Nat) (v v1 v2 : Value) (s : SlS) (r : RlS), k ≤ len ∧ k ≤ 60 ∧ i = .int .i64 k ∧ Two B B M w wr v v1 v2 s r ∧ Rel s r ∧ s.st ≤ k ∧ s.q.length ≤ k ∧ r.sure.length ≤ 100 * k) (fun i _ => len - (intOf i).toNat)
    case atStart => exact ⟨0, _, _, _, _, _, Nat.zero_le _, by omega, rfl, HT.out, Rel.new m, by simp [newS], by simp [newS], by simp [rNew]⟩
    case round =>
      obtain ⟨k, v, v1, v2, s, r, hk, hk60, rfl, ht, hrl, hst, hql, hsl⟩ := hrel
      have T0 := Kp.mk ht
      have HREL := Kp.mk hrl
      have HBD : Kp (s.st ≤ k ∧ s.q.length ≤ k ∧ r.sure.length ≤ 100 * k ∧ r.q.length ≤ k) := ⟨⟨hst, hql, hsl, by rw [hrl.q]; exact hql⟩⟩
      clear ht hrl hst hql hsl HT
      by_cases hlt : k < len
      · have hol : k < ol.length := by rw [HO.out.eq]; exact hlt
        obtain ⟨o, hoe⟩ : ∃ o, o = ol[k] := ⟨_, rfl⟩
        have HOk : Kp o.Ok := ⟨by rw [hoe]; exact HO.out.ok _ (List.getElem_mem hol)⟩
        obtain ⟨ab, off, rfl, hab, hrg⟩ := HO.out.cells k hol
        rw [← hoe] at hrg
        have HRG : Kp (wr.rangeAt ab (off + k * 67) (ocells o)) := ⟨rangeAt_below T0.out.below (by rw [HBe.out]; exact hab) hrg⟩
        have H67 : Kp ((ocells o).length = 67) := ⟨ocells_len HOk.out.l⟩
        have hlt' : (k : Int) < (len : Int) := by omega
        have HIS : Kp ((Try.prog.info? 32).map (·.size) = some (ocells o).toArray.size) := ⟨by rw [List.size_toArray, H67.out]; exact info32s⟩
        clear hrg hoe hol
        by_cases h60 : k < 60
        · have h60' : ¬ (60 : Int) ≤ (k : Int) := by omega
          have HQ0 : Kp (s.st + 1 ≤ 1000000 ∧ r.sure.length + r.q.length + 1 ≤ 1000000) := ⟨by have := HBD.out; omega⟩
          obtain ⟨wo, rfl⟩ : ∃ wo : World, wo = wr := ⟨_, rfl⟩
          go_wp2_with (first
            | (refine wpList_load_mid rfl 32 (.tmp 53) rfl ab (off + k * 67) rfl (ocells o) _ HRG.out Try.underlying32 rfl (by rw [H67.out]; exact info32s) ?_)
            | (refine wpList_alloc_row rfl 32 rfl _ _ infoz32 ?_; refine wpl_world (w := wo.alloc (.cells z32.toArray 32)) (fun w3 => Blk w3 wo.heap.size (.cells z32.toArray 32) ∧ Below wo.heap.size wo w3) ⟨Blk.new _ _, more (Below.refl _ _) _⟩ ?_; rintro W4 ⟨h1, h2⟩; have K1 := Kp.mk h1; have K2 := Kp.mk h2; clear h1 h2)
            | (refine wpList_store_row rfl 32 (.tmp 11) (.tmp 54) rfl wo.heap.size (ocells o).toArray rfl rfl 32 _ K1.out HIS.out (by rw [List.size_toArray, List.size_toArray, H67.out, z32_len]) (all_oneCell_toArray (ocells_one o)) ?_; refine wpl_world (w := W4.setRow wo.heap.size (ocells o).toArray) (fun w3 => Blk w3 wo.heap.size (.cells (ocells o).toArray 32) ∧ Below wo.heap.size wo w3) ⟨Blk.setRow K1.out _, Below.row K2.out (Nat.le_refl _) _⟩ ?_; rintro W5 ⟨h1, h2⟩; have E2 := Kp.mk h1; have T1 := Kp.mk (T0.out.keep h2); clear h1 h2 K1 K2)
            | (refine wpList_load_row rfl 32 (.tmp 11) rfl wo.heap.size rfl 32 _ (0, 0) _ E2.out Try.underlying32 rfl HIS.out ?_))
          refine (does_any B B M v v1 v2 s r o _ T1.out.self HREL.out HOk.out HQ0.out.1 HQ0.out.2).mono ?_
          rintro q w7 ⟨rfl, v9, v19, v29, s9, r9, hi9, hr9, hrel9, hb9, hbd9⟩
          have T9 : Kp (Two B B M w w7 v9 v19 v29 s9 r9) := ⟨⟨hi9, hr9, T1.out.bg, T1.out.bM, T1.out.below.trans hb9⟩⟩
          have HREL2 := Kp.mk hrel9
          have HBD9 : Kp (s9.st ≤ k + 1 ∧ s9.q.length ≤ k + 1 ∧ r9.sure.length ≤ 100 * (k + 1)) := ⟨by
            obtain ⟨b1, b2, b3, b4⟩ := hbd9
            have := HBD.out
            omega⟩
          have HQ2 : Kp (s9.q.length ≤ 1000000) := ⟨by have := HBD9.out; omega⟩
          clear hi9 hr9 hrel9 hb9 hbd9
          go_wp2_with fail
          refine (isL_any B B M v9 v19 v29 s9 r9 _ T9.out.self HREL2.out HQ2.out).mono ?_
          rintro q w8 ⟨rfl, hb8⟩
          have T2 := Kp.mk (T9.out.keep hb8)
          clear hb8
          go_wp2_with fail
          refine (read_any B v9 s9 at_ _ T2.out.is HQ2.out).mono ?_
          rintro q w3 ⟨rfl, hb3⟩
          obtain ⟨zz, hzz⟩ : ∃ zz, zz = readZ s9 at_ := ⟨_, rfl⟩
          obtain ⟨ee, hee⟩ : ∃ ee, ee = hasE s9 at_ := ⟨_, rfl⟩
          have HZZ : Kp (zz.length = 64 ∧ Bytes zz) := ⟨by rw [hzz]; exact readZ_len T2.out.is.k _⟩
          have HRR : Kp (rReadZ r9 at_ = zz ∧ rHas r9 at_ = ee) := ⟨by rw [hzz, hee]; exact ⟨HREL2.out.read _, HREL2.out.has _⟩⟩
          rw [← hzz, ← hee]
          have T3 := Kp.mk (T2.out.keep hb3)
          clear hb3 hzz hee
          go_wp2_with (first
            | (refine wpList_alloc_row rfl 35 rfl _ _ infoz64 ?_; refine wpl_world (w := w3.alloc (.cells (kv .u8 z64).toArray 35)) (fun w6 => Row w6 w3.heap.size 35 .u8 z64 ∧ Below w3.heap.size w3 w6) ⟨Blk.new _ _, more (Below.refl _ _) _⟩ ?_; rintro W8 ⟨h1, h2⟩; have K1 := Kp.mk h1; have K2 := Kp.mk h2; clear h1 h2)
            | (refine wpList_store_row rfl 35 (.tmp 12) (.tmp 72) rfl w3.heap.size (kv .u8 zz).toArray rfl rfl 35 _ K1.out (cells64 HZZ.out.1) (by rw [kv_size, kv_size, HZZ.out.1, z64_len]) (kv_all _ _) ?_; refine wpl_world (w := W8.setRow w3.heap.size (kv .u8 zz).toArray) (fun w6 => Row w6 w3.heap.size 35 .u8 zz ∧ Below w3.heap.size w3 w6) ⟨K1.out.setRow _, Below.row K2.out (Nat.le_refl _) _⟩ ?_; rintro W4 ⟨h1, h2⟩; have X4 := Kp.mk h1; have T4 := Kp.mk (T3.out.keep h2); clear h1 h2 K1 K2))
          refine (rread_any M v19 v29 r9 at_ _ T4.out.ir).mono ?_
          rintro q w5 ⟨rfl, hb5⟩
          rw [HRR.out.1, HRR.out.2]
          have T5 := Kp.mk (T4.out.keep hb5)
          have X5 := Kp.mk (X4.out.keep hb5)
          have HX5 : Kp (w3.heap.size < w5.heap.size) := ⟨X5.out.lt⟩
          have heq := fun w => eqIn35 HZZ.out.1 HZZ.out.2 w
          clear hb5
          go_wp2_with (first
            | (refine wpList_alloc_row rfl 30 rfl _ _ infoz30 ?_; refine wpl_world (w := w5.alloc (.cells (kv .u8 z64).toArray 30)) (fun w6 => Row w6 w5.heap.size 30 .u8 z64 ∧ Below w5.heap.size w5 w6) ⟨Blk.new _ _, more (Below.refl _ _) _⟩ ?_; rintro W9 ⟨h1, h2⟩; have K1 := Kp.mk h1; have K2 := Kp.mk h2; clear h1 h2)
            | (refine wpList_store_row rfl 30 (.tmp 14) (.tmp 78) rfl w5.heap.size (kv .u8 zz).toArray rfl rfl 30 _ K1.out (cells30 HZZ.out.1) (by rw [kv_size, kv_size, HZZ.out.1, z64_len]) (kv_all _ _) ?_; refine wpl_world (w := W9.setRow w5.heap.size (kv .u8 zz).toArray) (fun w6 => Row w6 w5.heap.size 30 .u8 zz ∧ Below w5.heap.size w5 w6) ⟨K1.out.setRow _, Below.row K2.out (Nat.le_refl _) _⟩ ?_; rintro W6 ⟨h1, h2⟩; have Y6 := Kp.mk h1; have T6 := Kp.mk (T5.out.keep h2); have X6 := Kp.mk (X5.out.keep h2); clear h1 h2 K1 K2)
            | (refine wpList_load_rowG (by kernel_rfl) 35 (.tmp 12) rfl w3.heap.size rfl 35 _ (0, 0) _ X6.out Try.underlying35 rfl (cells64 HZZ.out.1) ?_)
            | (refine wpList_load_rowG (by kernel_rfl) 30 (.tmp 14) rfl w5.heap.size rfl 30 _ (0, 0) _ Y6.out Try.underlying30 rfl (cells30 HZZ.out.1) ?_))
          go_roundw
          case rel => exact ⟨k + 1, v9, v19, v29, s9, r9, by omega, by omega, by first | rfl | go_num, T6.out, HREL2.out, by have := HBD9.out.1; omega, HBD9.out.2.1, HBD9.out.2.2⟩
          case measure => simp [intOf] <;> omega
        · obtain rfl : k = 60 := by omega
          go_wp2_with (first
            | (refine wpList_load_mid rfl 32 (.tmp 53) rfl ab (off + 60 * 67) rfl (ocells o) _ HRG.out Try.underlying32 rfl (by rw [H67.out]; exact info32s) ?_)
            | (refine wpList_alloc_row rfl 32 rfl _ _ infoz32 ?_; refine wpl_world (w := wr.alloc (.cells z32.toArray 32)) (fun w3 => Blk w3 wr.heap.size (.cells z32.toArray 32) ∧ Below wr.heap.size wr w3) ⟨Blk.new _ _, more (Below.refl _ _) _⟩ ?_; rintro W4 ⟨h1, h2⟩; have K1 := Kp.mk h1; have K2 := Kp.mk h2; clear h1 h2)
            | (refine wpList_store_row rfl 32 (.tmp 11) (.tmp 54) rfl wr.heap.size (ocells o).toArray rfl rfl 32 _ K1.out HIS.out (by rw [List.size_toArray, List.size_toArray, H67.out, z32_len]) (all_oneCell_toArray (ocells_one o)) ?_; refine wpl_world (w := W4.setRow wr.heap.size (ocells o).toArray) (fun w3 => Blk w3 wr.heap.size (.cells (ocells o).toArray 32) ∧ Below wr.heap.size wr w3) ⟨Blk.setRow K1.out _, Below.row K2.out (Nat.le_refl _) _⟩ ?_; rintro W5 ⟨h1, h2⟩; have E2 := Kp.mk h1; have T1 := Kp.mk (T0.out.keep h2); clear h1 h2 K1 K2))
          go_ret
          exact ⟨rfl, by rw [← HBe.out]; exact T1.out.below⟩
      · obtain rfl : k = len := by omega
        go_wp2_with fail
        go_ret
        exact ⟨rfl, by rw [← HBe.out]; exact T0.out.below⟩
end Go.Proofs.Ytgikedbnnlckjaa
