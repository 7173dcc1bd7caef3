/-
  The law GroveNews, walked.
-/
import Derived.Test.YtahmioiefmheeaaDoorGn228
namespace Go.Proofs.YtahmioiefmheeaaDoor
open Go.RowKit

theorem HoldsS.rangeN {w : World} {b off n cap i : Nat} {l : List Int} (h : HoldsS w (.slice (some ⟨b, off, Option.none⟩) n cap) n l) (hi : i < n) : w.rangeAt b (off + i * 16) (kv .u8 (segL l i)) := by
  obtain ⟨b', o', e, _, hr⟩ := h.range hi
  simp only [Option.some.injEq, Addr.mk.injEq, and_true] at e
  obtain ⟨rfl, rfl⟩ := e
  exact hr
theorem E3sz {A : Nat} {w w' : World} (h : Below A w w') (hA : A = w.heap.size) : A ≤ w'.heap.size := by rw [hA]; exact h.size
theorem GrowIs.high' {w w' : World} {G A : Nat} {v : Value} {ps : List (List Int)} {row : Option Nat} {g : Nat} (h : GrowIs w G A v ps) (hI : ∀ I, row = some I → I < A ∧ I < g) (hg : w.grownBy w' row) : GrowIs w' G A v ps := by
  cases row with
  | none => exact h.below ⟨hg.os, hg.tape, hg.output, hg.size, fun k hk => hg.block k hk (by simp)⟩
  | some I => exact h.high (hI I rfl).1 hg
theorem way_lt9 {w : World} {a : Option Addr} {n c : Nat} {l : List Int} (h : HoldsS w (.slice a n c) n l) {x : Addr} (hx : a = some x) (h0 : 0 < n) : x.block < w.heap.size := by
  obtain ⟨a', c', e, _, _, _, h4⟩ := h
  obtain ⟨b, off, ha, hlt, _⟩ := h4 h0
  simp only [Value.slice.injEq] at e
  rw [← e.1, hx] at ha
  simp only [Option.some.injEq] at ha
  rw [ha]
  exact hlt
set_option maxRecDepth 100000 in
set_option maxHeartbeats 8000000 in
theorem groveNews_walk (x0 x1 : Int) (a2 : Option Addr) (len2 cap2 : Nat) (z2 : List Int) (x3 : Int) (w : World) (_w0 : (Lit.int .i64 x0).wf = true) (w1 : (Lit.int .u32 x1).wf = true) (w2 : HoldsS w (.slice a2 len2 cap2) len2 z2 ∧ len2 ≤ cap2 ∧ cap2 ≤ maxLen) (_w3 : (Lit.int .i64 x3).wf = true) (hk : KonIs w) :
    Calls Tryd.prog 13 #[.int .i64 x0, .int .u32 x1, .slice a2 len2 cap2, .int .i64 x3] w fun e w' => e = .returned (.bool true) ∧ Below w.heap.size w w' := by
  have HE := Kp.mk (u32_wf w1)
  have HK := Kp.mk hk
  have HR2 := Kp.mk w2.1
  have hc1 := w2.2.1
  have hc2 := w2.2.2
  unfold maxLen at hc2
  clear _w0 w1 _w3 hk w2
  obtain ⟨A, hA⟩ : ∃ A, A = w.heap.size := ⟨_, rfl⟩
  have HA := Kp.mk hA
  have HL0' : Kp (∀ x, a2 = some x → 0 < len2 → x.block < A) := ⟨fun x hx h0 => by rw [hA]; exact way_lt9 HR2.out hx h0⟩
  by_cases hcut : 70 < len2
  · have hcut2 : (70 : Int) < (len2 : Int) := by omega
    have Y1 : Kp (HoldsS w (.slice a2 70 cap2) 70 (z2.take (70 * 16))) := ⟨HR2.out.front (by omega)⟩
    have HL0 : Kp (∀ x, a2 = some x → 0 < 70 → x.block < A) := ⟨fun x hx _ => HL0'.out x hx (by omega)⟩
    clear HR2 HL0'
    go_enter Tryd.func13, Tryd.ntmps13
    go_wp2_with fail
    have HLn : Kp (((z2.take (70 * 16))).length = 70 * 16 ∧ Bytes (z2.take (70 * 16))) := ⟨by obtain ⟨_, _, _, k1, _, k2, _⟩ := Y1.out; exact ⟨k1, k2⟩⟩
    refine (toS_any (.slice a2 70 cap2) 70 (z2.take (70 * 16)) w Y1.out (by omega)).mono ?_
    rintro r w3 ⟨v9, rfl, ho, hb⟩
    have hT := HoldsS.ofRow HLn.out.2 (by unfold maxLen; omega) HLn.out.1 ho
    have HO3 : Kp (0 < 70 → ∃ I c cs, v9 = .slice (some ⟨I, 0, none⟩) 70 c ∧ A ≤ I ∧ Blk w3 I (.cells cs 33) ∧ 70 * 16 ≤ cs.size) := ⟨fun h0 => by rw [hA]; exact own_block ho h0⟩
    have HI3 : Kp (∀ I, v9.ownBlock = some I → A ≤ I ∧ I < w3.heap.size) := ⟨fun I hI => by rw [hA]; exact ho.lt I hI⟩
    have Y3 := Kp.mk (Y1.out.keep hb)
    have BB3 : Kp (Below A w w3) := ⟨by rw [hA]; exact hb⟩
    obtain ⟨a9, c9, e9, -⟩ := id hT
    subst e9
    have HT3 := Kp.mk hT
    clear ho hT hb hA Y1
    go_wp2_with fail
    by_cases hp : ∃ k : Nat, k ≤ 6 ∧ 70 = 2 ^ k
    · obtain ⟨k, hk6, hQ⟩ := hp
      have HQ := Kp.mk hQ
      clear hQ
      refine (newG_any x0 x1 a9 70 c9 (z2.take (70 * 16)) k w3 (HK.out.keep (by rw [← HA.out]; exact BB3.out)) HE.out HQ.out hk6 HT3.out).mono ?_
      rintro r w4 ⟨G, v4, rfl, h1, h2, h3, hb⟩
      have HGb := Kp.mk h1
      have HGI := Kp.mk h2
      have HL2 : Kp (((z2.take (70 * 16))).length = 2 ^ k * 16) := ⟨by rw [HLn.out.1, HQ.out]⟩
      have HO4 : Kp (0 < 70 → ∃ I c cs, (Value.slice a9 70 c9) = .slice (some ⟨I, 0, none⟩) 70 c ∧ A ≤ I ∧ Blk w4 I (.cells cs 33) ∧ 70 * 16 ≤ cs.size) := ⟨fun h0 => by obtain ⟨I, c, cs, e, h4, h5, h6⟩ := HO3.out h0; exact ⟨I, c, cs, e, h4, h5.keep hb, h6⟩⟩
      have HIG : Kp (∀ I, (Value.slice a9 70 c9).ownBlock = some I → I < w3.heap.size ∧ I < G) := ⟨fun I hI => by have := HI3.out I hI; omega⟩
      have HI0 : Kp (∀ I, (Value.slice a9 70 c9).ownBlock = some I → A ≤ I) := ⟨fun I hI => (HI3.out I hI).1⟩
      have Y4 := Kp.mk (Y3.out.keep hb)
      have BB4 : Kp (Below A w w4) := ⟨BB3.out.trans (hb.mono (E3sz BB3.out HA.out))⟩
      have HW4 : Kp (w4 = w4) := ⟨rfl⟩
      clear h1 h2 h3 hb HO3 BB3 Y3 HT3
      obtain ⟨W5, hW5⟩ : ∃ W, W = w4 := ⟨_, rfl⟩
      have HZ5 : Kp (0 < 70 → ∃ I c cs, (Value.slice a9 70 c9) = .slice (some ⟨I, 0, none⟩) 70 c ∧ A ≤ I ∧ Blk w4 I (.cells cs 33) ∧ 70 * 16 ≤ cs.size) := HO4
      have HG5 : Kp (W5.grownBy w4 (Value.slice a9 70 c9).ownBlock) := ⟨by rw [hW5]; exact ⟨rfl, rfl, rfl, Nat.le_refl _, fun k _ _ => rfl⟩⟩
      rw [← hW5] at HW4 HGb HGI Y4
      clear hW5 HO4
      go_wp2_with fail
      go_loopw [12, 33] (fun _ c wr => ∃ i : Nat, i ≤ 70 ∧ c = .int .i64 i ∧ Kp (0 < 70 → ∃ I c cs, (Value.slice a9 70 c9) = .slice (some ⟨I, 0, none⟩) 70 c ∧ A ≤ I ∧ Blk wr I (.cells cs 33) ∧ 70 * 16 ≤ cs.size) ∧ Kp (W5.grownBy wr (Value.slice a9 70 c9).ownBlock) ∧ Kp (Below A w wr)) (fun _ c _ => 70 - (intOf c).toNat)
      case atStart => exact ⟨0, by omega, rfl, HZ5, HG5, BB4⟩
      case round =>
        obtain ⟨i, hi, rfl, E1, E2, E3⟩ := hrel
        clear HZ5 HG5 BB4
        by_cases hlt : i < 70
        · obtain ⟨I, cI, cs, e9, hAI, hbk, hcs⟩ := E1.out (by omega)
          simp only [Value.slice.injEq, true_and] at e9
          obtain ⟨rfl, rfl⟩ := e9
          have HT := Kp.mk (blk_there hbk hlt hcs)
          obtain ⟨cs', hb', hs'⟩ := Blk.setCells_size (kv .u8 zeroS) (i * 16) wr cs hbk
          obtain ⟨W9, hW9⟩ : ∃ W, W = wr.setCells I (i * 16) (kv .u8 zeroS).toArray.toList := ⟨_, rfl⟩
          have hW9' : W9 = wr.setCells I (i * 16) (kv .u8 zeroS) := hW9
          have F1 : Kp (0 < 70 → ∃ I' c cs, (Value.slice (some ⟨I, 0, none⟩) 70 c9) = .slice (some ⟨I', 0, none⟩) 70 c ∧ A ≤ I' ∧ Blk W9 I' (.cells cs 33) ∧ 70 * 16 ≤ cs.size) := ⟨fun _ => ⟨I, c9, cs', rfl, hAI, by rw [hW9']; exact hb', by omega⟩⟩
          have F2 : Kp (W5.grownBy W9 (some I)) := ⟨by rw [hW9']; exact grown_setCells _ _ _ E2.out⟩
          have F3 : Kp (Below A w W9) := ⟨by rw [hW9']; exact Below.cells hAI _ _ _ _ E3.out⟩
          clear hW9'
          have HZl : Kp ((zeroS : List Int).length = 16) := ⟨rfl⟩
          clear hbk hb' hs' hcs hAI E1 E2 E3
          have hlc : (i : Int) < ((70 : Nat) : Int) := by omega
          have hl0 : (0 : Int) ≤ (i : Int) := by omega
          go_wp2_with (refine wpList_store_mid rfl 33 (.tmp 39) (.tmp 38) rfl I (i * 16) (kv .u8 zeroS).toArray rfl rfl (by rw [kv_size, HZl.out]; exact HT.out) (cells50 HZl.out) (kv_all _ _) ?_; refine wpl_world (· = W9) hW9.symm ?_; clear hW9; intro W0 e0; rw [e0]; clear e0)
          exact ⟨⟨i + 1, by omega, by go_num, F1, F2, F3⟩, by simp [intOf]; omega⟩
        · have hge : ¬ (i : Int) < ((70 : Nat) : Int) := by omega
          clear E1
          go_wp2_with fail
          have YG5 : Kp (GroveAt wr G x0 x1 (z2.take (70 * 16)) k) := ⟨v4, (E2.out.block G HGb.out.lt (fun e => by have := HIG.out G e.symm; omega)).trans HGb.out, (HGI.out.high' HIG.out E2.out).at (by rw [lvls5_len]; omega)⟩
          have Y5 : Kp (HoldsS wr (.slice a2 70 cap2) 70 (z2.take (70 * 16))) := ⟨Y4.out.grown E2.out (fun x hx h0 e => by have := HL0.out x hx h0; have := HI0.out x.block e.symm; omega)⟩
          have B5 : Kp (Below A w wr ∧ A ≤ wr.heap.size) := ⟨E3.out, E3sz E3.out HA.out⟩
          clear E2 E3 HGb HIG HGI Y4 HL0 HI0
          refine (height_pow 70 k wr HQ.out hk6).mono ?_
          rintro r w1 ⟨rfl, e1⟩
          rw [e1]
          clear e1 w1
          go_wp2_with fail
          refine (rheight_pow 70 k wr HQ.out hk6).mono ?_
          rintro r w1 ⟨rfl, e1⟩
          rw [e1]
          clear e1 w1
          have tk : ((k : Int) != (k : Int)) = false := by simp
          go_wp2_with fail
          clear tk
          refine (rheight_pow 70 k wr HQ.out hk6).mono ?_
          rintro r w1 ⟨rfl, e1⟩
          rw [e1]
          clear e1 w1
          have tk : ¬ (k : Int) < 0 := by omega
          go_wp2_with fail
          refine (awake7 wr).mono ?_
          rintro r w6 ⟨rfl, hb⟩
          have YG6 := Kp.mk (YG5.out.keep hb)
          have Y6 := Kp.mk (Y5.out.keep hb)
          have B6 : Kp (Below A w w6 ∧ A ≤ w6.heap.size) := ⟨B5.out.1.trans (hb.mono B5.out.2), Nat.le_trans B5.out.2 hb.size⟩
          clear hb YG5 Y5 B5
          have hqp : ∀ w, (binOp .eql 85 (.pointer (some ⟨G, 0, none⟩)) (.pointer none)).run Tryd.prog w = .ok (.bool false) w := fun w => rfl
          go_wp2_with fail
          refine (rootG_any x0 x1 (z2.take (70 * 16)) k G w6 HL2.out hk6 YG6.out).mono ?_
          rintro r w6b ⟨rfl, hb⟩
          have YG6b := Kp.mk (YG6.out.keep hb)
          have Y6b := Kp.mk (Y6.out.keep hb)
          have B6b : Kp (Below A w w6b ∧ A ≤ w6b.heap.size) := ⟨B6.out.1.trans (hb.mono B6.out.2), Nat.le_trans B6.out.2 hb.size⟩
          clear hb YG6 Y6 B6
          go_wp2_with fail
          refine (rrootG_any x0 x1 a2 70 cap2 (z2.take (70 * 16)) k w6b HE.out HQ.out hk6 Y6b.out).mono ?_
          rintro r w7 ⟨rfl, hb⟩
          have YG7 := Kp.mk (YG6b.out.keep hb)
          have Y7 := Kp.mk (Y6b.out.keep hb)
          have B7 : Kp (Below A w w7 ∧ A ≤ w7.heap.size) := ⟨B6b.out.1.trans (hb.mono B6b.out.2), Nat.le_trans B6b.out.2 hb.size⟩
          clear hb YG6b Y6b B6b
          obtain ⟨root, hr⟩ : ∃ r, r = nodeG x0 x1 (z2.take (70 * 16)) k 0 := ⟨_, rfl⟩
          have HRl : Kp (root.length = 16 ∧ Bytes root) := ⟨by rw [hr]; exact ⟨nodeG_len HL2.out k 0 (by omega), nodeG_bytes HLn.out.2 k 0⟩⟩
          rw [← hr]
          clear hr
          have hq : ∀ w, (binOp .neq 33 (dgV root) (dgV root)).run Tryd.prog w = .ok (.bool false) w := fun w => neq50 (p := root) HRl.out.2 HRl.out.1 w
          have hg := neg50
          go_wp2_with fail
          clear hq hg hqp
          by_cases hjr : 0 ≤ x3 ∧ x3 < ((70 : Nat) : Int)
          · obtain ⟨j, rfl⟩ : ∃ j : Nat, x3 = j := ⟨x3.toNat, by omega⟩
            have hjn : j < 70 := by omega
            have HJ : Kp (j < 2 ^ k) := ⟨by rw [← HQ.out]; exact hjn⟩
            refine (leafG_any x0 x1 (z2.take (70 * 16)) k G j w7 HL2.out HJ.out YG7.out).mono ?_
            rintro r w8 ⟨rfl, hb⟩
            obtain ⟨s, hs⟩ : ∃ s, s = segL (z2.take (70 * 16)) j := ⟨_, rfl⟩
            rw [← hs]
            have HSe := Kp.mk hs
            have HSl : Kp (s.length = 16) := ⟨by rw [hs]; exact segL_len HLn.out.1 hjn⟩
            have HSb : Kp (Bytes s) := ⟨by rw [hs]; exact HLn.out.2.seg j⟩
            have YG8 := Kp.mk (YG7.out.keep hb)
            have Y8 := Kp.mk (Y7.out.keep hb)
            have B8 : Kp (Below A w w8 ∧ A ≤ w8.heap.size) := ⟨B7.out.1.trans (hb.mono B7.out.2), Nat.le_trans B7.out.2 hb.size⟩
            clear hb hs YG7 Y7 B7
            obtain ⟨W9, hW9⟩ : ∃ W2, W2 = (w8.alloc z50).setRow w8.heap.size (kv .u8 s).toArray := ⟨_, rfl⟩
            have hb9 : Below w8.heap.size w8 W9 := by rw [hW9]; exact Below.row (more (Below.refl _ _) z50) (Nat.le_refl _) _
            have R9' : Kp (Row W9 w8.heap.size 33 .u8 s) := ⟨by rw [hW9]; exact Row.setRow (k := .u8) (l := fill 16 []) (Blk.new w8 z50) _⟩
            have YG9' := Kp.mk (YG8.out.keep hb9)
            have Y9' := Kp.mk (Y8.out.keep hb9)
            have B9' : Kp (Below A w W9 ∧ A ≤ W9.heap.size) := ⟨B8.out.1.trans (hb9.mono B8.out.2), Nat.le_trans B8.out.2 hb9.size⟩
            clear hb9 YG8 Y8 B8
            go_wp2_with (refine wpList_store_row rfl 33 (.tmp 13) (.tmp 84) rfl w8.heap.size (kv .u8 s).toArray rfl rfl 33 _ (Blk.new w8 z50) (cells50 HSl.out) (size50 HSl.out) (kv_all _ _) ?_; refine wpl_world (· = W9) hW9.symm ?_; clear hW9; intro W0 e0; rw [e0]; clear e0)
            obtain ⟨g13, hg13⟩ : ∃ g, g = w8.heap.size := ⟨_, rfl⟩
            rw [← hg13] at R9'
            rw [← hg13]
            clear hg13
            refine (pathO_any x0 x1 (z2.take (70 * 16)) k G j W9 HL2.out HLn.out.2 hk6 HJ.out YG9'.out).mono ?_
            rintro r w10 ⟨v15, rfl, h1, hb⟩
            obtain ⟨a15, c15, rfl, -⟩ := id h1
            obtain ⟨Pw, hPw⟩ : ∃ P, P = pathG x0 x1 (z2.take (70 * 16)) k j := ⟨_, rfl⟩
            have HPl : Kp (Pw.length = k * 16) := ⟨by rw [hPw]; exact pathG_len HL2.out HJ.out⟩
            have HPb : Kp (Bytes Pw) := ⟨by rw [hPw]; exact pathG_bytes HLn.out.2 k j⟩
            rw [← hPw] at h1
            have HPw := Kp.mk hPw
            have YP9 := Kp.mk h1
            have R9 := Kp.mk (R9'.out.keep hb)
            have YG9 := Kp.mk (YG9'.out.keep hb)
            have Y9'' := Kp.mk (Y9'.out.keep hb)
            have B9 : Kp (Below A w w10 ∧ A ≤ w10.heap.size) := ⟨B9'.out.1.trans (hb.mono B9'.out.2), Nat.le_trans B9'.out.2 hb.size⟩
            obtain ⟨b, off, rfl, -, -⟩ := Y9''.out.range hjn
            have Y9 : Kp (HoldsS w10 (.slice (some ⟨b, off, none⟩) 70 cap2) 70 (z2.take (70 * 16))) := Y9''
            clear h1 hb hPw R9' YG9' Y9' Y9'' B9'
            have q1 : ¬ (j : Int) < 0 := by omega
            have q2 : ¬ ((70 : Nat) : Int) ≤ (j : Int) := by omega
            go_wp2_with fail
            refine wp_region_pred (fun w' => Row w' g13 33 .u8 s ∧ HoldsS w' (.slice (some ⟨b, off, none⟩) 70 cap2) 70 (z2.take (70 * 16)) ∧ HoldsS w' (.slice a15 k c15) k Pw ∧ GroveAt w' G x0 x1 (z2.take (70 * 16)) k ∧ (Below A w w' ∧ A ≤ w'.heap.size)) [0, 1, 2, 3, 4, 5, 6, 7, 8, 9, 10, 11, 12, 13, 14, 15, 16, 17, 18, 19, 20, 21, 22, 23] [24]
              (fun ι w' v => match ι with
                | 0 | 3 => v = .int .i64 0
                | 7 | 11 => v = dgV s
                | 8 | 19 => v = .slice (some ⟨b, off, none⟩) 70 cap2
                | 9 | 20 => v = .int .i64 j
                | 10 => v = .pointer (some ⟨b, off + j * 16, none⟩)
                | 15 => v = .slice a15 k c15
                | 17 => v = .int .i64 x0
                | 18 => v = .int .u32 x1
                | 16 => HoldsS w' v k Pw
                | 21 => HoldsS w' v k Pw
                | _ => v = .bool true)
              [[], [(0, some 111)], [(1, some 112)], [(2, some 113)], [(2, some 113), (3, some 114)], [(2, some 113), (4, some 115)], [(2, some 113), (5, some 116)], [(6, some 117)], [(6, some 117)], [(6, some 117)], [(6, some 117), (8, some 119), (9, some 120)], [(6, some 117), (10, some 121)], [(6, some 117), (7, some 118), (11, some 122)], [(6, some 117), (12, some 123)], [(6, some 117), (13, some 124)], [(14, some 125)], [(14, some 125), (15, some 126)], [(14, some 125)], [(14, some 125)], [(14, some 125)], [(14, some 125)], [(14, some 125), (16, some 127), (17, some 128), (18, some 129), (19, some 130), (20, some 131)], [(14, some 125), (16, some 127), (21, some 132)], [(14, some 125), (22, some 133)]]
              [(0, some 111), (1, some 112), (2, some 113), (3, some 114), (4, some 115), (5, some 116), (6, some 117), (7, some 118), (8, some 119), (9, some 120), (10, some 121), (11, some 122), (12, some 123), (13, some 124), (14, some 125), (15, some 126), (16, some 127), (17, some 128), (18, some 129), (19, some 130), (20, some 131), (21, some 132), (22, some 133), (23, some 134)]
              (by kernel_rfl) (by kernel_rfl) (by kernel_rfl) (by kernel_rfl) (by kernel_rfl) (by kernel_rfl) (by decide) (by decide) (fun w1 w2 h hb => ⟨h.1.keep hb, h.2.1.keep hb, h.2.2.1.keep hb, h.2.2.2.1.keep hb, ⟨h.2.2.2.2.1.trans (hb.mono h.2.2.2.2.2), Nat.le_trans h.2.2.2.2.2 hb.size⟩⟩) ?_ ⟨R9.out.drew, Y9.out.drew, YP9.out.drew, YG9.out, ⟨B9.out.1.drew, B9.out.2⟩⟩ ?_ ?_
            · intro ι w1 w2 v h hb
              by_cases h16 : ι = 16
              · subst h16
                exact HoldsS.keep h hb
              by_cases h21 : ι = 21
              · subst h21
                exact HoldsS.keep h hb
              match ι, h16, h21, h with
              | 0, _, _, h => exact h
              | 1, _, _, h => exact h
              | 2, _, _, h => exact h
              | 3, _, _, h => exact h
              | 4, _, _, h => exact h
              | 5, _, _, h => exact h
              | 6, _, _, h => exact h
              | 7, _, _, h => exact h
              | 8, _, _, h => exact h
              | 9, _, _, h => exact h
              | 10, _, _, h => exact h
              | 11, _, _, h => exact h
              | 12, _, _, h => exact h
              | 13, _, _, h => exact h
              | 14, _, _, h => exact h
              | 15, _, _, h => exact h
              | 16, g, _, h => exact absurd rfl g
              | 17, _, _, h => exact h
              | 18, _, _, h => exact h
              | 19, _, _, h => exact h
              | 20, _, _, h => exact h
              | 21, _, g, h => exact absurd rfl g
              | 22, _, _, h => exact h
              | 23, _, _, h => exact h
              | _ + 24, _, _, h => exact h
            · refine ⟨fun γ wx hS h => ?_, fun γ wx hS h => ?_, fun γ wx hS h => ?_, fun γ wx hS h => ?_, fun γ wx hS h => ?_, fun γ wx hS h => ?_, fun γ wx hS h => ?_, fun γ wx hS h => ?_, fun γ wx hS h => ?_, fun γ wx hS h => ?_, fun γ wx hS h => ?_, fun γ wx hS h => ?_, fun γ wx hS h => ?_, fun γ wx hS h => ?_, fun γ wx hS h => ?_, fun γ wx hS h => ?_, fun γ wx hS h => ?_, fun γ wx hS h => ?_, fun γ wx hS h => ?_, fun γ wx hS h => ?_, fun γ wx hS h => ?_, fun γ wx hS h => ?_, fun γ wx hS h => ?_, fun γ wx hS h => ?_, trivial⟩
              · refine ⟨_, rfl, Or.inl ⟨rfl, predRun_value (v := .int .i64 0) (by simp only [putE]; first | rfl | (go_simp; done) | (go_simp; with_reducible rfl) | (go_simp; rfl)) rfl⟩⟩
              · have h0 := h
                have e0 : γ 0 = .int .i64 0 := h0
                refine ⟨_, rfl, Or.inl ⟨rfl, predRun_value (v := .bool true) (by simp only [putE, e0]; first | rfl | (go_simp; done) | (go_simp; with_reducible rfl) | (go_simp; rfl)) rfl⟩⟩
              · have h1 := h
                have e1 : γ 1 = .bool true := h1
                refine ⟨_, rfl, Or.inl ⟨rfl, predRun_value (v := .bool true) (by simp only [putE, e1]; first | rfl | (go_simp; done) | (go_simp; with_reducible rfl) | (go_simp; rfl)) rfl⟩⟩
              · have h2 := h
                have e2 : γ 2 = .bool true := h2
                refine ⟨_, rfl, Or.inl ⟨(by simp only [putE, e2]; first | kernel_rfl | rfl), predRun_value (v := .int .i64 0) (by simp only [putE, e2]; first | rfl | (go_simp; done) | (go_simp; with_reducible rfl) | (go_simp; rfl)) rfl⟩⟩
              · obtain ⟨h2, h3⟩ := h
                have e2 : γ 2 = .bool true := h2
                have e3 : γ 3 = .int .i64 0 := h3
                refine ⟨_, rfl, Or.inl ⟨(by simp only [putE, e2, e3]; first | kernel_rfl | rfl), predRun_value (v := .bool true) (by simp only [putE, e2, e3]; first | rfl | (go_simp; done) | (go_simp; with_reducible rfl) | (go_simp; rfl)) rfl⟩⟩
              · obtain ⟨h2, h4⟩ := h
                have e2 : γ 2 = .bool true := h2
                have e4 : γ 4 = .bool true := h4
                refine ⟨_, rfl, Or.inl ⟨rfl, predRun_value (v := .bool true) (by simp only [putE, e2, e4]; first | rfl | (go_simp; done) | (go_simp; with_reducible rfl) | (go_simp; rfl)) rfl⟩⟩
              · obtain ⟨h2, h5⟩ := h
                have e2 : γ 2 = .bool true := h2
                have e5 : γ 5 = .bool true := h5
                refine ⟨_, rfl, Or.inl ⟨rfl, predRun_value (v := .bool true) (by simp only [putE, e2, e5]; first | rfl | (go_simp; done) | (go_simp; with_reducible rfl) | (go_simp; rfl)) rfl⟩⟩
              · have h6 := h
                have e6 : γ 6 = .bool true := h6
                refine ⟨_, rfl, Or.inl ⟨(by simp only [putE, e6]; first | kernel_rfl | rfl), predRun_value (exec_load_blk 33 (.tmp 13) rfl (g13) rfl 33 _ (0, 0) _ hS.1 Tryd.underlying33 rfl (cells50 HSl.out)) rfl⟩⟩
              · have h6 := h
                have e6 : γ 6 = .bool true := h6
                refine ⟨_, rfl, Or.inl ⟨(by simp only [putE, e6]; first | kernel_rfl | rfl), predRun_value (v := .slice (some ⟨b, off, none⟩) 70 cap2) (by simp only [putE, e6]; first | rfl | (go_simp; done) | (go_simp; with_reducible rfl) | (go_simp; rfl)) rfl⟩⟩
              · have h6 := h
                have e6 : γ 6 = .bool true := h6
                refine ⟨_, rfl, Or.inl ⟨(by simp only [putE, e6]; first | kernel_rfl | rfl), predRun_value (v := .int .i64 j) (by simp only [putE, e6]; first | rfl | (go_simp; done) | (go_simp; with_reducible rfl) | (go_simp; rfl)) rfl⟩⟩
              · obtain ⟨h6, h8, h9⟩ := h
                have e6 : γ 6 = .bool true := h6
                have e8 : γ 8 = .slice (some ⟨b, off, none⟩) 70 cap2 := h8
                have e9 : γ 9 = .int .i64 j := h9
                refine ⟨_, rfl, Or.inl ⟨(by simp only [putE, e6, e8, e9]; first | kernel_rfl | rfl), predRun_value (exec_idx65 (x := .tmp 119) (y := .tmp 120) (B := b) (o := off) (n := 70) (cap := cap2) (j := j) rfl (by simp only [putE, e6, e8, e9, Act.put, List.setIfInBounds_toArray, List.set_cons_zero, List.set_cons_succ]; rfl) (by simp only [putE, e6, e8, e9, Act.put, List.setIfInBounds_toArray, List.set_cons_zero, List.set_cons_succ]; rfl) rfl hjn) rfl⟩⟩
              · obtain ⟨h6, h10⟩ := h
                have e6 : γ 6 = .bool true := h6
                have e10 : γ 10 = .pointer (some ⟨b, off + j * 16, none⟩) := h10
                refine ⟨_, rfl, Or.inl ⟨(by simp only [putE, e6, e10]; first | kernel_rfl | rfl), predRun_value (exec_load_midS (b := b) (off := off + j * 16) (x := .tmp 121) (cs := kv .u8 s) rfl (by simp only [putE, e6, e10, Act.put, List.setIfInBounds_toArray, List.set_cons_zero, List.set_cons_succ]; rfl) (by rw [HSe.out]; exact hS.2.1.rangeN hjn) Tryd.underlying32 rfl (cellsL32 HSl.out)) rfl⟩⟩
              · obtain ⟨h6, h7, h11⟩ := h
                have e6 : γ 6 = .bool true := h6
                have e7 : γ 7 = dgV s := h7
                have e11 : γ 11 = dgV s := h11
                refine ⟨_, rfl, Or.inl ⟨(by simp only [putE, e6, e7, e11]; first | kernel_rfl | rfl), predRun_value (v := .bool true) (by simp only [putE, e6, e7, e11]; have hq : ∀ w, (binOp .eql 33 (dgV s) (dgV s)).run Tryd.prog w = .ok (.bool true) w := fun w => eql50 (p := s) HSb.out HSl.out w; have hg := eqg50; first | (go_simp; done) | (go_simp; with_reducible rfl)) rfl⟩⟩
              · obtain ⟨h6, h12⟩ := h
                have e6 : γ 6 = .bool true := h6
                have e12 : γ 12 = .bool true := h12
                refine ⟨_, rfl, Or.inl ⟨rfl, predRun_value (v := .bool true) (by simp only [putE, e6, e12]; first | rfl | (go_simp; done) | (go_simp; with_reducible rfl) | (go_simp; rfl)) rfl⟩⟩
              · obtain ⟨h6, h13⟩ := h
                have e6 : γ 6 = .bool true := h6
                have e13 : γ 13 = .bool true := h13
                refine ⟨_, rfl, Or.inl ⟨rfl, predRun_value (v := .bool true) (by simp only [putE, e6, e13]; first | rfl | (go_simp; done) | (go_simp; with_reducible rfl) | (go_simp; rfl)) rfl⟩⟩
              · have h14 := h
                have e14 : γ 14 = .bool true := h14
                refine ⟨_, rfl, Or.inl ⟨(by simp only [putE, e14]; first | kernel_rfl | rfl), predRun_value (v := .slice a15 k c15) (by simp only [putE, e14]; first | rfl | (go_simp; done) | (go_simp; with_reducible rfl) | (go_simp; rfl)) rfl⟩⟩
              · obtain ⟨h14, h15⟩ := h
                have e14 : γ 14 = .bool true := h14
                have e15 : γ 15 = .slice a15 k c15 := h15
                refine ⟨_, rfl, Or.inl ⟨(by simp only [putE, e14, e15]; first | kernel_rfl | rfl), predRun_call (f := 50) (args := #[.slice a15 k c15]) (by simp only [putE, e14, e15]; go_simp) ?_⟩⟩
                refine (fromS_any (.slice a15 k c15) k Pw wx hS.2.2.1 (by omega)).mono ?_
                rintro e w2 ⟨v', h1, h2, h3⟩
                exact ⟨v', h1, HoldsS.ofRow HPb.out (by unfold maxLen; omega) HPl.out h2, h3⟩
              · have h14 := h
                have e14 : γ 14 = .bool true := h14
                refine ⟨_, rfl, Or.inl ⟨(by simp only [putE, e14]; first | kernel_rfl | rfl), predRun_value (v := .int .i64 x0) (by simp only [putE, e14]; first | rfl | (go_simp; done) | (go_simp; with_reducible rfl) | (go_simp; rfl)) rfl⟩⟩
              · have h14 := h
                have e14 : γ 14 = .bool true := h14
                refine ⟨_, rfl, Or.inl ⟨(by simp only [putE, e14]; first | kernel_rfl | rfl), predRun_value (v := .int .u32 x1) (by simp only [putE, e14]; first | rfl | (go_simp; done) | (go_simp; with_reducible rfl) | (go_simp; rfl)) rfl⟩⟩
              · have h14 := h
                have e14 : γ 14 = .bool true := h14
                refine ⟨_, rfl, Or.inl ⟨(by simp only [putE, e14]; first | kernel_rfl | rfl), predRun_value (v := .slice (some ⟨b, off, none⟩) 70 cap2) (by simp only [putE, e14]; first | rfl | (go_simp; done) | (go_simp; with_reducible rfl) | (go_simp; rfl)) rfl⟩⟩
              · have h14 := h
                have e14 : γ 14 = .bool true := h14
                refine ⟨_, rfl, Or.inl ⟨(by simp only [putE, e14]; first | kernel_rfl | rfl), predRun_value (v := .int .i64 j) (by simp only [putE, e14]; first | rfl | (go_simp; done) | (go_simp; with_reducible rfl) | (go_simp; rfl)) rfl⟩⟩
              · obtain ⟨h14, h16, h17, h18, h19, h20⟩ := h
                have e14 : γ 14 = .bool true := h14
                have p16 : HoldsS wx (γ 16) k Pw := h16
                have e17 : γ 17 = .int .i64 x0 := h17
                have e18 : γ 18 = .int .u32 x1 := h18
                have e19 : γ 19 = .slice (some ⟨b, off, none⟩) 70 cap2 := h19
                have e20 : γ 20 = .int .i64 j := h20
                refine ⟨_, rfl, Or.inl ⟨(by simp only [putE, e14, e17, e18, e19, e20]; first | kernel_rfl | rfl), predRun_call (f := 67) (args := #[.int .i64 x0, .int .u32 x1, .slice (some ⟨b, off, none⟩) 70 cap2, .int .i64 j]) (by simp only [putE, e14, e17, e18, e19, e20]; go_simp) ?_⟩⟩
                exact (rpathG_any x0 x1 _ 70 cap2 (z2.take (70 * 16)) k j wx HE.out HQ.out hk6 HJ.out hS.2.1).mono fun e w2 ⟨v', h1, h2, _, h3⟩ => ⟨v', h1, (by rw [HPw.out]; exact h2), h3⟩
              · obtain ⟨h14, h16, h21⟩ := h
                have e14 : γ 14 = .bool true := h14
                have p16 : HoldsS wx (γ 16) k Pw := h16
                have p21 : HoldsS wx (γ 21) k Pw := h21
                refine ⟨_, rfl, Or.inl ⟨(by simp only [putE, e14]; first | kernel_rfl | rfl), predRun_call (f := 49) (args := #[γ 16, γ 21]) (by simp only [putE, e14]; go_simp) ?_⟩⟩
                exact (sames_any (γ 16) (γ 21) k k Pw Pw wx p16 p21 (by omega) (by omega)).mono fun e w2 ⟨h1, h2⟩ => ⟨_, h1, by simp, h2⟩
              · obtain ⟨h14, h22⟩ := h
                have e14 : γ 14 = .bool true := h14
                have e22 : γ 22 = .bool true := h22
                refine ⟨_, rfl, Or.inl ⟨rfl, predRun_value (v := .bool true) (by simp only [putE, e14, e22]; first | rfl | (go_simp; done) | (go_simp; with_reducible rfl) | (go_simp; rfl)) rfl⟩⟩
            · intro γ w9 hS h
              have e23 : γ 23 = .bool true := h.2.2.2.2.2.2.2.2.2.2.2.2.2.2.2.2.2.2.2.2.2.2.2
              have B10 := Kp.mk hS.2.2.2.2
              simp only [putE, Act.put, List.setIfInBounds_toArray, List.set_cons_zero, List.set_cons_succ]
              rw [e23]
              clear h hS e23
              refine wpOps_step rfl rfl ?_
              refine wp_assign_endD (d := some 8) (v := .bool true) rfl rfl rfl ?_
              simp only [Act.put, List.setIfInBounds_toArray, List.set_cons_zero, List.set_cons_succ]
              refine wpOps_done ?_
              go_wp2_with fail
              go_ret
              exact ⟨rfl, by rw [← HA.out]; exact B10.out.1⟩
          · refine (leafG_no x0 x1 (z2.take (70 * 16)) k G x3 w7 HL2.out (by rw [← HQ.out]; exact hjr) YG7.out).mono ?_
            rintro r w8 ⟨rfl, hb⟩
            have YG8 := Kp.mk (YG7.out.keep hb)
            have B8 : Kp (Below A w w8 ∧ A ≤ w8.heap.size) := ⟨B7.out.1.trans (hb.mono B7.out.2), Nat.le_trans B7.out.2 hb.size⟩
            clear hb YG7 Y7 B7
            obtain ⟨W9, hW9⟩ : ∃ W2, W2 = (w8.alloc z50).setRow w8.heap.size (kv .u8 zeroS).toArray := ⟨_, rfl⟩
            have hb9 : Below w8.heap.size w8 W9 := by rw [hW9]; exact Below.row (more (Below.refl _ _) z50) (Nat.le_refl _) _
            have YG9 := Kp.mk (YG8.out.keep hb9)
            have B9 : Kp (Below A w W9 ∧ A ≤ W9.heap.size) := ⟨B8.out.1.trans (hb9.mono B8.out.2), Nat.le_trans B8.out.2 hb9.size⟩
            clear hb9 YG8 B8
            have HZl : Kp ((zeroS : List Int).length = 16) := ⟨rfl⟩
            go_wp2_with (refine wpList_store_row rfl 33 (.tmp 13) (.tmp 84) rfl w8.heap.size (kv .u8 zeroS).toArray rfl rfl 33 _ (Blk.new w8 z50) (cells50 HZl.out) (size50 HZl.out) (kv_all _ _) ?_; refine wpl_world (· = W9) hW9.symm ?_; clear hW9; intro W0 e0; rw [e0]; clear e0)
            refine (pathO_no x0 x1 (z2.take (70 * 16)) k G x3 W9 HL2.out (by rw [← HQ.out]; exact hjr) YG9.out).mono ?_
            rintro r w10 ⟨rfl, e10⟩
            rw [e10]
            clear e10 w10
            by_cases q0 : x3 < 0
            · go_wp2_with fail
              go_ret
              exact ⟨rfl, by rw [← HA.out]; exact B9.out.1⟩
            · have q2 : ((70 : Nat) : Int) ≤ x3 := by omega
              go_wp2_with fail
              go_ret
              exact ⟨rfl, by rw [← HA.out]; exact B9.out.1⟩
    · have HNo : Kp (∀ i : Nat, i < 7 → ((70 : Nat) : Int) ≠ 2 ^ i) := ⟨fun i hi e => hp ⟨i, by omega, by have h2 : ((2 ^ i : Nat) : Int) = (2 : Int) ^ i := (by simp); omega⟩⟩
      clear hp HT3 HI3
      refine (newG_no x0 x1 a9 70 c9 w3 HNo.out).mono ?_
      rintro r w4 ⟨rfl, e4⟩
      have HO4 : Kp (0 < 70 → ∃ I c cs, (Value.slice a9 70 c9) = .slice (some ⟨I, 0, none⟩) 70 c ∧ A ≤ I ∧ Blk w4 I (.cells cs 33) ∧ 70 * 16 ≤ cs.size) := ⟨by rw [e4]; exact HO3.out⟩
      have BB4 : Kp (Below A w w4) := ⟨by rw [e4]; exact BB3.out⟩
      have HW4 : Kp (w4 = w4) := ⟨rfl⟩
      clear e4 HO3 BB3 Y3
      obtain ⟨W5, hW5⟩ : ∃ W, W = w4 := ⟨_, rfl⟩
      have HZ5 : Kp (0 < 70 → ∃ I c cs, (Value.slice a9 70 c9) = .slice (some ⟨I, 0, none⟩) 70 c ∧ A ≤ I ∧ Blk w4 I (.cells cs 33) ∧ 70 * 16 ≤ cs.size) := HO4
      have HG5 : Kp (W5.grownBy w4 (Value.slice a9 70 c9).ownBlock) := ⟨by rw [hW5]; exact ⟨rfl, rfl, rfl, Nat.le_refl _, fun k _ _ => rfl⟩⟩
      rw [← hW5] at HW4
      clear hW5 HO4
      go_wp2_with fail
      go_loopw [12, 33] (fun _ c wr => ∃ i : Nat, i ≤ 70 ∧ c = .int .i64 i ∧ Kp (0 < 70 → ∃ I c cs, (Value.slice a9 70 c9) = .slice (some ⟨I, 0, none⟩) 70 c ∧ A ≤ I ∧ Blk wr I (.cells cs 33) ∧ 70 * 16 ≤ cs.size) ∧ Kp (W5.grownBy wr (Value.slice a9 70 c9).ownBlock) ∧ Kp (Below A w wr)) (fun _ c _ => 70 - (intOf c).toNat)
      case atStart => exact ⟨0, by omega, rfl, HZ5, HG5, BB4⟩
      case round =>
        obtain ⟨i, hi, rfl, E1, E2, E3⟩ := hrel
        clear HZ5 HG5 BB4
        by_cases hlt : i < 70
        · obtain ⟨I, cI, cs, e9, hAI, hbk, hcs⟩ := E1.out (by omega)
          simp only [Value.slice.injEq, true_and] at e9
          obtain ⟨rfl, rfl⟩ := e9
          have HT := Kp.mk (blk_there hbk hlt hcs)
          obtain ⟨cs', hb', hs'⟩ := Blk.setCells_size (kv .u8 zeroS) (i * 16) wr cs hbk
          obtain ⟨W9, hW9⟩ : ∃ W, W = wr.setCells I (i * 16) (kv .u8 zeroS).toArray.toList := ⟨_, rfl⟩
          have hW9' : W9 = wr.setCells I (i * 16) (kv .u8 zeroS) := hW9
          have F1 : Kp (0 < 70 → ∃ I' c cs, (Value.slice (some ⟨I, 0, none⟩) 70 c9) = .slice (some ⟨I', 0, none⟩) 70 c ∧ A ≤ I' ∧ Blk W9 I' (.cells cs 33) ∧ 70 * 16 ≤ cs.size) := ⟨fun _ => ⟨I, c9, cs', rfl, hAI, by rw [hW9']; exact hb', by omega⟩⟩
          have F2 : Kp (W5.grownBy W9 (some I)) := ⟨by rw [hW9']; exact grown_setCells _ _ _ E2.out⟩
          have F3 : Kp (Below A w W9) := ⟨by rw [hW9']; exact Below.cells hAI _ _ _ _ E3.out⟩
          clear hW9'
          have HZl : Kp ((zeroS : List Int).length = 16) := ⟨rfl⟩
          clear hbk hb' hs' hcs hAI E1 E2 E3
          have hlc : (i : Int) < ((70 : Nat) : Int) := by omega
          have hl0 : (0 : Int) ≤ (i : Int) := by omega
          go_wp2_with (refine wpList_store_mid rfl 33 (.tmp 39) (.tmp 38) rfl I (i * 16) (kv .u8 zeroS).toArray rfl rfl (by rw [kv_size, HZl.out]; exact HT.out) (cells50 HZl.out) (kv_all _ _) ?_; refine wpl_world (· = W9) hW9.symm ?_; clear hW9; intro W0 e0; rw [e0]; clear e0)
          exact ⟨⟨i + 1, by omega, by go_num, F1, F2, F3⟩, by simp [intOf]; omega⟩
        · have hge : ¬ (i : Int) < ((70 : Nat) : Int) := by omega
          clear E1
          go_wp2_with fail
          refine (height_no 70 wr HNo.out).mono ?_
          rintro r w1 ⟨rfl, e1⟩
          rw [e1]
          clear e1 w1
          go_wp2_with fail
          refine (rheight_no 70 wr HNo.out).mono ?_
          rintro r w1 ⟨rfl, e1⟩
          rw [e1]
          clear e1 w1
          go_wp2_with fail
          refine (rheight_no 70 wr HNo.out).mono ?_
          rintro r w1 ⟨rfl, e1⟩
          rw [e1]
          clear e1 w1
          go_wp2_with fail
          refine (awake7 wr).mono ?_
          rintro r w6 ⟨rfl, hb⟩
          have B6 : Kp (Below A w w6) := ⟨E3.out.trans (hb.mono (E3sz E3.out HA.out))⟩
          clear hb
          have hqp : ∀ w, (binOp .eql 85 (.pointer none) (.pointer none)).run Tryd.prog w = .ok (.bool true) w := fun w => rfl
          go_wp2_with fail
          go_ret
          exact ⟨rfl, by rw [← HA.out]; exact B6.out⟩
  · have hcut2 : ¬ (70 : Int) < (len2 : Int) := by omega
    have Y1 := HR2
    have HL0 := HL0'
    clear HR2 HL0'
    go_enter Tryd.func13, Tryd.ntmps13
    go_wp2_with fail
    have HLn : Kp ((z2).length = len2 * 16 ∧ Bytes z2) := ⟨by obtain ⟨_, _, _, k1, _, k2, _⟩ := Y1.out; exact ⟨k1, k2⟩⟩
    refine (toS_any (.slice a2 len2 cap2) len2 z2 w Y1.out (by omega)).mono ?_
    rintro r w3 ⟨v9, rfl, ho, hb⟩
    have hT := HoldsS.ofRow HLn.out.2 (by unfold maxLen; omega) HLn.out.1 ho
    have HO3 : Kp (0 < len2 → ∃ I c cs, v9 = .slice (some ⟨I, 0, none⟩) len2 c ∧ A ≤ I ∧ Blk w3 I (.cells cs 33) ∧ len2 * 16 ≤ cs.size) := ⟨fun h0 => by rw [hA]; exact own_block ho h0⟩
    have HI3 : Kp (∀ I, v9.ownBlock = some I → A ≤ I ∧ I < w3.heap.size) := ⟨fun I hI => by rw [hA]; exact ho.lt I hI⟩
    have Y3 := Kp.mk (Y1.out.keep hb)
    have BB3 : Kp (Below A w w3) := ⟨by rw [hA]; exact hb⟩
    obtain ⟨a9, c9, e9, -⟩ := id hT
    subst e9
    have HT3 := Kp.mk hT
    clear ho hT hb hA Y1
    go_wp2_with fail
    by_cases hp : ∃ k : Nat, k ≤ 6 ∧ len2 = 2 ^ k
    · obtain ⟨k, hk6, hQ⟩ := hp
      have HQ := Kp.mk hQ
      clear hQ
      refine (newG_any x0 x1 a9 len2 c9 z2 k w3 (HK.out.keep (by rw [← HA.out]; exact BB3.out)) HE.out HQ.out hk6 HT3.out).mono ?_
      rintro r w4 ⟨G, v4, rfl, h1, h2, h3, hb⟩
      have HGb := Kp.mk h1
      have HGI := Kp.mk h2
      have HL2 : Kp ((z2).length = 2 ^ k * 16) := ⟨by rw [HLn.out.1, HQ.out]⟩
      have HO4 : Kp (0 < len2 → ∃ I c cs, (Value.slice a9 len2 c9) = .slice (some ⟨I, 0, none⟩) len2 c ∧ A ≤ I ∧ Blk w4 I (.cells cs 33) ∧ len2 * 16 ≤ cs.size) := ⟨fun h0 => by obtain ⟨I, c, cs, e, h4, h5, h6⟩ := HO3.out h0; exact ⟨I, c, cs, e, h4, h5.keep hb, h6⟩⟩
      have HIG : Kp (∀ I, (Value.slice a9 len2 c9).ownBlock = some I → I < w3.heap.size ∧ I < G) := ⟨fun I hI => by have := HI3.out I hI; omega⟩
      have HI0 : Kp (∀ I, (Value.slice a9 len2 c9).ownBlock = some I → A ≤ I) := ⟨fun I hI => (HI3.out I hI).1⟩
      have Y4 := Kp.mk (Y3.out.keep hb)
      have BB4 : Kp (Below A w w4) := ⟨BB3.out.trans (hb.mono (E3sz BB3.out HA.out))⟩
      have HW4 : Kp (w4 = w4) := ⟨rfl⟩
      clear h1 h2 h3 hb HO3 BB3 Y3 HT3
      obtain ⟨W5, hW5⟩ : ∃ W, W = w4 := ⟨_, rfl⟩
      have HZ5 : Kp (0 < len2 → ∃ I c cs, (Value.slice a9 len2 c9) = .slice (some ⟨I, 0, none⟩) len2 c ∧ A ≤ I ∧ Blk w4 I (.cells cs 33) ∧ len2 * 16 ≤ cs.size) := HO4
      have HG5 : Kp (W5.grownBy w4 (Value.slice a9 len2 c9).ownBlock) := ⟨by rw [hW5]; exact ⟨rfl, rfl, rfl, Nat.le_refl _, fun k _ _ => rfl⟩⟩
      rw [← hW5] at HW4 HGb HGI Y4
      clear hW5 HO4
      go_wp2_with fail
      go_loopw [12, 33] (fun _ c wr => ∃ i : Nat, i ≤ len2 ∧ c = .int .i64 i ∧ Kp (0 < len2 → ∃ I c cs, (Value.slice a9 len2 c9) = .slice (some ⟨I, 0, none⟩) len2 c ∧ A ≤ I ∧ Blk wr I (.cells cs 33) ∧ len2 * 16 ≤ cs.size) ∧ Kp (W5.grownBy wr (Value.slice a9 len2 c9).ownBlock) ∧ Kp (Below A w wr)) (fun _ c _ => len2 - (intOf c).toNat)
      case atStart => exact ⟨0, by omega, rfl, HZ5, HG5, BB4⟩
      case round =>
        obtain ⟨i, hi, rfl, E1, E2, E3⟩ := hrel
        clear HZ5 HG5 BB4
        by_cases hlt : i < len2
        · obtain ⟨I, cI, cs, e9, hAI, hbk, hcs⟩ := E1.out (by omega)
          simp only [Value.slice.injEq, true_and] at e9
          obtain ⟨rfl, rfl⟩ := e9
          have HT := Kp.mk (blk_there hbk hlt hcs)
          obtain ⟨cs', hb', hs'⟩ := Blk.setCells_size (kv .u8 zeroS) (i * 16) wr cs hbk
          obtain ⟨W9, hW9⟩ : ∃ W, W = wr.setCells I (i * 16) (kv .u8 zeroS).toArray.toList := ⟨_, rfl⟩
          have hW9' : W9 = wr.setCells I (i * 16) (kv .u8 zeroS) := hW9
          have F1 : Kp (0 < len2 → ∃ I' c cs, (Value.slice (some ⟨I, 0, none⟩) len2 c9) = .slice (some ⟨I', 0, none⟩) len2 c ∧ A ≤ I' ∧ Blk W9 I' (.cells cs 33) ∧ len2 * 16 ≤ cs.size) := ⟨fun _ => ⟨I, c9, cs', rfl, hAI, by rw [hW9']; exact hb', by omega⟩⟩
          have F2 : Kp (W5.grownBy W9 (some I)) := ⟨by rw [hW9']; exact grown_setCells _ _ _ E2.out⟩
          have F3 : Kp (Below A w W9) := ⟨by rw [hW9']; exact Below.cells hAI _ _ _ _ E3.out⟩
          clear hW9'
          have HZl : Kp ((zeroS : List Int).length = 16) := ⟨rfl⟩
          clear hbk hb' hs' hcs hAI E1 E2 E3
          have hlc : (i : Int) < ((len2 : Nat) : Int) := by omega
          have hl0 : (0 : Int) ≤ (i : Int) := by omega
          go_wp2_with (refine wpList_store_mid rfl 33 (.tmp 39) (.tmp 38) rfl I (i * 16) (kv .u8 zeroS).toArray rfl rfl (by rw [kv_size, HZl.out]; exact HT.out) (cells50 HZl.out) (kv_all _ _) ?_; refine wpl_world (· = W9) hW9.symm ?_; clear hW9; intro W0 e0; rw [e0]; clear e0)
          exact ⟨⟨i + 1, by omega, by go_num, F1, F2, F3⟩, by simp [intOf]; omega⟩
        · have hge : ¬ (i : Int) < ((len2 : Nat) : Int) := by omega
          clear E1
          go_wp2_with fail
          have YG5 : Kp (GroveAt wr G x0 x1 z2 k) := ⟨v4, (E2.out.block G HGb.out.lt (fun e => by have := HIG.out G e.symm; omega)).trans HGb.out, (HGI.out.high' HIG.out E2.out).at (by rw [lvls5_len]; omega)⟩
          have Y5 : Kp (HoldsS wr (.slice a2 len2 cap2) len2 z2) := ⟨Y4.out.grown E2.out (fun x hx h0 e => by have := HL0.out x hx h0; have := HI0.out x.block e.symm; omega)⟩
          have B5 : Kp (Below A w wr ∧ A ≤ wr.heap.size) := ⟨E3.out, E3sz E3.out HA.out⟩
          clear E2 E3 HGb HIG HGI Y4 HL0 HI0
          refine (height_pow len2 k wr HQ.out hk6).mono ?_
          rintro r w1 ⟨rfl, e1⟩
          rw [e1]
          clear e1 w1
          go_wp2_with fail
          refine (rheight_pow len2 k wr HQ.out hk6).mono ?_
          rintro r w1 ⟨rfl, e1⟩
          rw [e1]
          clear e1 w1
          have tk : ((k : Int) != (k : Int)) = false := by simp
          go_wp2_with fail
          clear tk
          refine (rheight_pow len2 k wr HQ.out hk6).mono ?_
          rintro r w1 ⟨rfl, e1⟩
          rw [e1]
          clear e1 w1
          have tk : ¬ (k : Int) < 0 := by omega
          go_wp2_with fail
          refine (awake7 wr).mono ?_
          rintro r w6 ⟨rfl, hb⟩
          have YG6 := Kp.mk (YG5.out.keep hb)
          have Y6 := Kp.mk (Y5.out.keep hb)
          have B6 : Kp (Below A w w6 ∧ A ≤ w6.heap.size) := ⟨B5.out.1.trans (hb.mono B5.out.2), Nat.le_trans B5.out.2 hb.size⟩
          clear hb YG5 Y5 B5
          have hqp : ∀ w, (binOp .eql 85 (.pointer (some ⟨G, 0, none⟩)) (.pointer none)).run Tryd.prog w = .ok (.bool false) w := fun w => rfl
          go_wp2_with fail
          refine (rootG_any x0 x1 z2 k G w6 HL2.out hk6 YG6.out).mono ?_
          rintro r w6b ⟨rfl, hb⟩
          have YG6b := Kp.mk (YG6.out.keep hb)
          have Y6b := Kp.mk (Y6.out.keep hb)
          have B6b : Kp (Below A w w6b ∧ A ≤ w6b.heap.size) := ⟨B6.out.1.trans (hb.mono B6.out.2), Nat.le_trans B6.out.2 hb.size⟩
          clear hb YG6 Y6 B6
          go_wp2_with fail
          refine (rrootG_any x0 x1 a2 len2 cap2 z2 k w6b HE.out HQ.out hk6 Y6b.out).mono ?_
          rintro r w7 ⟨rfl, hb⟩
          have YG7 := Kp.mk (YG6b.out.keep hb)
          have Y7 := Kp.mk (Y6b.out.keep hb)
          have B7 : Kp (Below A w w7 ∧ A ≤ w7.heap.size) := ⟨B6b.out.1.trans (hb.mono B6b.out.2), Nat.le_trans B6b.out.2 hb.size⟩
          clear hb YG6b Y6b B6b
          obtain ⟨root, hr⟩ : ∃ r, r = nodeG x0 x1 z2 k 0 := ⟨_, rfl⟩
          have HRl : Kp (root.length = 16 ∧ Bytes root) := ⟨by rw [hr]; exact ⟨nodeG_len HL2.out k 0 (by omega), nodeG_bytes HLn.out.2 k 0⟩⟩
          rw [← hr]
          clear hr
          have hq : ∀ w, (binOp .neq 33 (dgV root) (dgV root)).run Tryd.prog w = .ok (.bool false) w := fun w => neq50 (p := root) HRl.out.2 HRl.out.1 w
          have hg := neg50
          go_wp2_with fail
          clear hq hg hqp
          by_cases hjr : 0 ≤ x3 ∧ x3 < ((len2 : Nat) : Int)
          · obtain ⟨j, rfl⟩ : ∃ j : Nat, x3 = j := ⟨x3.toNat, by omega⟩
            have hjn : j < len2 := by omega
            have HJ : Kp (j < 2 ^ k) := ⟨by rw [← HQ.out]; exact hjn⟩
            refine (leafG_any x0 x1 z2 k G j w7 HL2.out HJ.out YG7.out).mono ?_
            rintro r w8 ⟨rfl, hb⟩
            obtain ⟨s, hs⟩ : ∃ s, s = segL z2 j := ⟨_, rfl⟩
            rw [← hs]
            have HSe := Kp.mk hs
            have HSl : Kp (s.length = 16) := ⟨by rw [hs]; exact segL_len HLn.out.1 hjn⟩
            have HSb : Kp (Bytes s) := ⟨by rw [hs]; exact HLn.out.2.seg j⟩
            have YG8 := Kp.mk (YG7.out.keep hb)
            have Y8 := Kp.mk (Y7.out.keep hb)
            have B8 : Kp (Below A w w8 ∧ A ≤ w8.heap.size) := ⟨B7.out.1.trans (hb.mono B7.out.2), Nat.le_trans B7.out.2 hb.size⟩
            clear hb hs YG7 Y7 B7
            obtain ⟨W9, hW9⟩ : ∃ W2, W2 = (w8.alloc z50).setRow w8.heap.size (kv .u8 s).toArray := ⟨_, rfl⟩
            have hb9 : Below w8.heap.size w8 W9 := by rw [hW9]; exact Below.row (more (Below.refl _ _) z50) (Nat.le_refl _) _
            have R9' : Kp (Row W9 w8.heap.size 33 .u8 s) := ⟨by rw [hW9]; exact Row.setRow (k := .u8) (l := fill 16 []) (Blk.new w8 z50) _⟩
            have YG9' := Kp.mk (YG8.out.keep hb9)
            have Y9' := Kp.mk (Y8.out.keep hb9)
            have B9' : Kp (Below A w W9 ∧ A ≤ W9.heap.size) := ⟨B8.out.1.trans (hb9.mono B8.out.2), Nat.le_trans B8.out.2 hb9.size⟩
            clear hb9 YG8 Y8 B8
            go_wp2_with (refine wpList_store_row rfl 33 (.tmp 13) (.tmp 84) rfl w8.heap.size (kv .u8 s).toArray rfl rfl 33 _ (Blk.new w8 z50) (cells50 HSl.out) (size50 HSl.out) (kv_all _ _) ?_; refine wpl_world (· = W9) hW9.symm ?_; clear hW9; intro W0 e0; rw [e0]; clear e0)
            obtain ⟨g13, hg13⟩ : ∃ g, g = w8.heap.size := ⟨_, rfl⟩
            rw [← hg13] at R9'
            rw [← hg13]
            clear hg13
            refine (pathO_any x0 x1 z2 k G j W9 HL2.out HLn.out.2 hk6 HJ.out YG9'.out).mono ?_
            rintro r w10 ⟨v15, rfl, h1, hb⟩
            obtain ⟨a15, c15, rfl, -⟩ := id h1
            obtain ⟨Pw, hPw⟩ : ∃ P, P = pathG x0 x1 z2 k j := ⟨_, rfl⟩
            have HPl : Kp (Pw.length = k * 16) := ⟨by rw [hPw]; exact pathG_len HL2.out HJ.out⟩
            have HPb : Kp (Bytes Pw) := ⟨by rw [hPw]; exact pathG_bytes HLn.out.2 k j⟩
            rw [← hPw] at h1
            have HPw := Kp.mk hPw
            have YP9 := Kp.mk h1
            have R9 := Kp.mk (R9'.out.keep hb)
            have YG9 := Kp.mk (YG9'.out.keep hb)
            have Y9'' := Kp.mk (Y9'.out.keep hb)
            have B9 : Kp (Below A w w10 ∧ A ≤ w10.heap.size) := ⟨B9'.out.1.trans (hb.mono B9'.out.2), Nat.le_trans B9'.out.2 hb.size⟩
            obtain ⟨b, off, rfl, -, -⟩ := Y9''.out.range hjn
            have Y9 : Kp (HoldsS w10 (.slice (some ⟨b, off, none⟩) len2 cap2) len2 z2) := Y9''
            clear h1 hb hPw R9' YG9' Y9' Y9'' B9'
            have q1 : ¬ (j : Int) < 0 := by omega
            have q2 : ¬ ((len2 : Nat) : Int) ≤ (j : Int) := by omega
            go_wp2_with fail
            refine wp_region_pred (fun w' => Row w' g13 33 .u8 s ∧ HoldsS w' (.slice (some ⟨b, off, none⟩) len2 cap2) len2 z2 ∧ HoldsS w' (.slice a15 k c15) k Pw ∧ GroveAt w' G x0 x1 z2 k ∧ (Below A w w' ∧ A ≤ w'.heap.size)) [0, 1, 2, 3, 4, 5, 6, 7, 8, 9, 10, 11, 12, 13, 14, 15, 16, 17, 18, 19, 20, 21, 22, 23] [24]
              (fun ι w' v => match ι with
                | 0 | 3 => v = .int .i64 0
                | 7 | 11 => v = dgV s
                | 8 | 19 => v = .slice (some ⟨b, off, none⟩) len2 cap2
                | 9 | 20 => v = .int .i64 j
                | 10 => v = .pointer (some ⟨b, off + j * 16, none⟩)
                | 15 => v = .slice a15 k c15
                | 17 => v = .int .i64 x0
                | 18 => v = .int .u32 x1
                | 16 => HoldsS w' v k Pw
                | 21 => HoldsS w' v k Pw
                | _ => v = .bool true)
              [[], [(0, some 111)], [(1, some 112)], [(2, some 113)], [(2, some 113), (3, some 114)], [(2, some 113), (4, some 115)], [(2, some 113), (5, some 116)], [(6, some 117)], [(6, some 117)], [(6, some 117)], [(6, some 117), (8, some 119), (9, some 120)], [(6, some 117), (10, some 121)], [(6, some 117), (7, some 118), (11, some 122)], [(6, some 117), (12, some 123)], [(6, some 117), (13, some 124)], [(14, some 125)], [(14, some 125), (15, some 126)], [(14, some 125)], [(14, some 125)], [(14, some 125)], [(14, some 125)], [(14, some 125), (16, some 127), (17, some 128), (18, some 129), (19, some 130), (20, some 131)], [(14, some 125), (16, some 127), (21, some 132)], [(14, some 125), (22, some 133)]]
              [(0, some 111), (1, some 112), (2, some 113), (3, some 114), (4, some 115), (5, some 116), (6, some 117), (7, some 118), (8, some 119), (9, some 120), (10, some 121), (11, some 122), (12, some 123), (13, some 124), (14, some 125), (15, some 126), (16, some 127), (17, some 128), (18, some 129), (19, some 130), (20, some 131), (21, some 132), (22, some 133), (23, some 134)]
              (by kernel_rfl) (by kernel_rfl) (by kernel_rfl) (by kernel_rfl) (by kernel_rfl) (by kernel_rfl) (by decide) (by decide) (fun w1 w2 h hb => ⟨h.1.keep hb, h.2.1.keep hb, h.2.2.1.keep hb, h.2.2.2.1.keep hb, ⟨h.2.2.2.2.1.trans (hb.mono h.2.2.2.2.2), Nat.le_trans h.2.2.2.2.2 hb.size⟩⟩) ?_ ⟨R9.out.drew, Y9.out.drew, YP9.out.drew, YG9.out, ⟨B9.out.1.drew, B9.out.2⟩⟩ ?_ ?_
            · intro ι w1 w2 v h hb
              by_cases h16 : ι = 16
              · subst h16
                exact HoldsS.keep h hb
              by_cases h21 : ι = 21
              · subst h21
                exact HoldsS.keep h hb
              match ι, h16, h21, h with
              | 0, _, _, h => exact h
              | 1, _, _, h => exact h
              | 2, _, _, h => exact h
              | 3, _, _, h => exact h
              | 4, _, _, h => exact h
              | 5, _, _, h => exact h
              | 6, _, _, h => exact h
              | 7, _, _, h => exact h
              | 8, _, _, h => exact h
              | 9, _, _, h => exact h
              | 10, _, _, h => exact h
              | 11, _, _, h => exact h
              | 12, _, _, h => exact h
              | 13, _, _, h => exact h
              | 14, _, _, h => exact h
              | 15, _, _, h => exact h
              | 16, g, _, h => exact absurd rfl g
              | 17, _, _, h => exact h
              | 18, _, _, h => exact h
              | 19, _, _, h => exact h
              | 20, _, _, h => exact h
              | 21, _, g, h => exact absurd rfl g
              | 22, _, _, h => exact h
              | 23, _, _, h => exact h
              | _ + 24, _, _, h => exact h
            · refine ⟨fun γ wx hS h => ?_, fun γ wx hS h => ?_, fun γ wx hS h => ?_, fun γ wx hS h => ?_, fun γ wx hS h => ?_, fun γ wx hS h => ?_, fun γ wx hS h => ?_, fun γ wx hS h => ?_, fun γ wx hS h => ?_, fun γ wx hS h => ?_, fun γ wx hS h => ?_, fun γ wx hS h => ?_, fun γ wx hS h => ?_, fun γ wx hS h => ?_, fun γ wx hS h => ?_, fun γ wx hS h => ?_, fun γ wx hS h => ?_, fun γ wx hS h => ?_, fun γ wx hS h => ?_, fun γ wx hS h => ?_, fun γ wx hS h => ?_, fun γ wx hS h => ?_, fun γ wx hS h => ?_, fun γ wx hS h => ?_, trivial⟩
              · refine ⟨_, rfl, Or.inl ⟨rfl, predRun_value (v := .int .i64 0) (by simp only [putE]; first | rfl | (go_simp; done) | (go_simp; with_reducible rfl) | (go_simp; rfl)) rfl⟩⟩
              · have h0 := h
                have e0 : γ 0 = .int .i64 0 := h0
                refine ⟨_, rfl, Or.inl ⟨rfl, predRun_value (v := .bool true) (by simp only [putE, e0]; first | rfl | (go_simp; done) | (go_simp; with_reducible rfl) | (go_simp; rfl)) rfl⟩⟩
              · have h1 := h
                have e1 : γ 1 = .bool true := h1
                refine ⟨_, rfl, Or.inl ⟨rfl, predRun_value (v := .bool true) (by simp only [putE, e1]; first | rfl | (go_simp; done) | (go_simp; with_reducible rfl) | (go_simp; rfl)) rfl⟩⟩
              · have h2 := h
                have e2 : γ 2 = .bool true := h2
                refine ⟨_, rfl, Or.inl ⟨(by simp only [putE, e2]; first | kernel_rfl | rfl), predRun_value (v := .int .i64 0) (by simp only [putE, e2]; first | rfl | (go_simp; done) | (go_simp; with_reducible rfl) | (go_simp; rfl)) rfl⟩⟩
              · obtain ⟨h2, h3⟩ := h
                have e2 : γ 2 = .bool true := h2
                have e3 : γ 3 = .int .i64 0 := h3
                refine ⟨_, rfl, Or.inl ⟨(by simp only [putE, e2, e3]; first | kernel_rfl | rfl), predRun_value (v := .bool true) (by simp only [putE, e2, e3]; first | rfl | (go_simp; done) | (go_simp; with_reducible rfl) | (go_simp; rfl)) rfl⟩⟩
              · obtain ⟨h2, h4⟩ := h
                have e2 : γ 2 = .bool true := h2
                have e4 : γ 4 = .bool true := h4
                refine ⟨_, rfl, Or.inl ⟨rfl, predRun_value (v := .bool true) (by simp only [putE, e2, e4]; first | rfl | (go_simp; done) | (go_simp; with_reducible rfl) | (go_simp; rfl)) rfl⟩⟩
              · obtain ⟨h2, h5⟩ := h
                have e2 : γ 2 = .bool true := h2
                have e5 : γ 5 = .bool true := h5
                refine ⟨_, rfl, Or.inl ⟨rfl, predRun_value (v := .bool true) (by simp only [putE, e2, e5]; first | rfl | (go_simp; done) | (go_simp; with_reducible rfl) | (go_simp; rfl)) rfl⟩⟩
              · have h6 := h
                have e6 : γ 6 = .bool true := h6
                refine ⟨_, rfl, Or.inl ⟨(by simp only [putE, e6]; first | kernel_rfl | rfl), predRun_value (exec_load_blk 33 (.tmp 13) rfl (g13) rfl 33 _ (0, 0) _ hS.1 Tryd.underlying33 rfl (cells50 HSl.out)) rfl⟩⟩
              · have h6 := h
                have e6 : γ 6 = .bool true := h6
                refine ⟨_, rfl, Or.inl ⟨(by simp only [putE, e6]; first | kernel_rfl | rfl), predRun_value (v := .slice (some ⟨b, off, none⟩) len2 cap2) (by simp only [putE, e6]; first | rfl | (go_simp; done) | (go_simp; with_reducible rfl) | (go_simp; rfl)) rfl⟩⟩
              · have h6 := h
                have e6 : γ 6 = .bool true := h6
                refine ⟨_, rfl, Or.inl ⟨(by simp only [putE, e6]; first | kernel_rfl | rfl), predRun_value (v := .int .i64 j) (by simp only [putE, e6]; first | rfl | (go_simp; done) | (go_simp; with_reducible rfl) | (go_simp; rfl)) rfl⟩⟩
              · obtain ⟨h6, h8, h9⟩ := h
                have e6 : γ 6 = .bool true := h6
                have e8 : γ 8 = .slice (some ⟨b, off, none⟩) len2 cap2 := h8
                have e9 : γ 9 = .int .i64 j := h9
                refine ⟨_, rfl, Or.inl ⟨(by simp only [putE, e6, e8, e9]; first | kernel_rfl | rfl), predRun_value (exec_idx65 (x := .tmp 119) (y := .tmp 120) (B := b) (o := off) (n := len2) (cap := cap2) (j := j) rfl (by simp only [putE, e6, e8, e9, Act.put, List.setIfInBounds_toArray, List.set_cons_zero, List.set_cons_succ]; rfl) (by simp only [putE, e6, e8, e9, Act.put, List.setIfInBounds_toArray, List.set_cons_zero, List.set_cons_succ]; rfl) rfl hjn) rfl⟩⟩
              · obtain ⟨h6, h10⟩ := h
                have e6 : γ 6 = .bool true := h6
                have e10 : γ 10 = .pointer (some ⟨b, off + j * 16, none⟩) := h10
                refine ⟨_, rfl, Or.inl ⟨(by simp only [putE, e6, e10]; first | kernel_rfl | rfl), predRun_value (exec_load_midS (b := b) (off := off + j * 16) (x := .tmp 121) (cs := kv .u8 s) rfl (by simp only [putE, e6, e10, Act.put, List.setIfInBounds_toArray, List.set_cons_zero, List.set_cons_succ]; rfl) (by rw [HSe.out]; exact hS.2.1.rangeN hjn) Tryd.underlying32 rfl (cellsL32 HSl.out)) rfl⟩⟩
              · obtain ⟨h6, h7, h11⟩ := h
                have e6 : γ 6 = .bool true := h6
                have e7 : γ 7 = dgV s := h7
                have e11 : γ 11 = dgV s := h11
                refine ⟨_, rfl, Or.inl ⟨(by simp only [putE, e6, e7, e11]; first | kernel_rfl | rfl), predRun_value (v := .bool true) (by simp only [putE, e6, e7, e11]; have hq : ∀ w, (binOp .eql 33 (dgV s) (dgV s)).run Tryd.prog w = .ok (.bool true) w := fun w => eql50 (p := s) HSb.out HSl.out w; have hg := eqg50; first | (go_simp; done) | (go_simp; with_reducible rfl)) rfl⟩⟩
              · obtain ⟨h6, h12⟩ := h
                have e6 : γ 6 = .bool true := h6
                have e12 : γ 12 = .bool true := h12
                refine ⟨_, rfl, Or.inl ⟨rfl, predRun_value (v := .bool true) (by simp only [putE, e6, e12]; first | rfl | (go_simp; done) | (go_simp; with_reducible rfl) | (go_simp; rfl)) rfl⟩⟩
              · obtain ⟨h6, h13⟩ := h
                have e6 : γ 6 = .bool true := h6
                have e13 : γ 13 = .bool true := h13
                refine ⟨_, rfl, Or.inl ⟨rfl, predRun_value (v := .bool true) (by simp only [putE, e6, e13]; first | rfl | (go_simp; done) | (go_simp; with_reducible rfl) | (go_simp; rfl)) rfl⟩⟩
              · have h14 := h
                have e14 : γ 14 = .bool true := h14
                refine ⟨_, rfl, Or.inl ⟨(by simp only [putE, e14]; first | kernel_rfl | rfl), predRun_value (v := .slice a15 k c15) (by simp only [putE, e14]; first | rfl | (go_simp; done) | (go_simp; with_reducible rfl) | (go_simp; rfl)) rfl⟩⟩
              · obtain ⟨h14, h15⟩ := h
                have e14 : γ 14 = .bool true := h14
                have e15 : γ 15 = .slice a15 k c15 := h15
                refine ⟨_, rfl, Or.inl ⟨(by simp only [putE, e14, e15]; first | kernel_rfl | rfl), predRun_call (f := 50) (args := #[.slice a15 k c15]) (by simp only [putE, e14, e15]; go_simp) ?_⟩⟩
                refine (fromS_any (.slice a15 k c15) k Pw wx hS.2.2.1 (by omega)).mono ?_
                rintro e w2 ⟨v', h1, h2, h3⟩
                exact ⟨v', h1, HoldsS.ofRow HPb.out (by unfold maxLen; omega) HPl.out h2, h3⟩
              · have h14 := h
                have e14 : γ 14 = .bool true := h14
                refine ⟨_, rfl, Or.inl ⟨(by simp only [putE, e14]; first | kernel_rfl | rfl), predRun_value (v := .int .i64 x0) (by simp only [putE, e14]; first | rfl | (go_simp; done) | (go_simp; with_reducible rfl) | (go_simp; rfl)) rfl⟩⟩
              · have h14 := h
                have e14 : γ 14 = .bool true := h14
                refine ⟨_, rfl, Or.inl ⟨(by simp only [putE, e14]; first | kernel_rfl | rfl), predRun_value (v := .int .u32 x1) (by simp only [putE, e14]; first | rfl | (go_simp; done) | (go_simp; with_reducible rfl) | (go_simp; rfl)) rfl⟩⟩
              · have h14 := h
                have e14 : γ 14 = .bool true := h14
                refine ⟨_, rfl, Or.inl ⟨(by simp only [putE, e14]; first | kernel_rfl | rfl), predRun_value (v := .slice (some ⟨b, off, none⟩) len2 cap2) (by simp only [putE, e14]; first | rfl | (go_simp; done) | (go_simp; with_reducible rfl) | (go_simp; rfl)) rfl⟩⟩
              · have h14 := h
                have e14 : γ 14 = .bool true := h14
                refine ⟨_, rfl, Or.inl ⟨(by simp only [putE, e14]; first | kernel_rfl | rfl), predRun_value (v := .int .i64 j) (by simp only [putE, e14]; first | rfl | (go_simp; done) | (go_simp; with_reducible rfl) | (go_simp; rfl)) rfl⟩⟩
              · obtain ⟨h14, h16, h17, h18, h19, h20⟩ := h
                have e14 : γ 14 = .bool true := h14
                have p16 : HoldsS wx (γ 16) k Pw := h16
                have e17 : γ 17 = .int .i64 x0 := h17
                have e18 : γ 18 = .int .u32 x1 := h18
                have e19 : γ 19 = .slice (some ⟨b, off, none⟩) len2 cap2 := h19
                have e20 : γ 20 = .int .i64 j := h20
                refine ⟨_, rfl, Or.inl ⟨(by simp only [putE, e14, e17, e18, e19, e20]; first | kernel_rfl | rfl), predRun_call (f := 67) (args := #[.int .i64 x0, .int .u32 x1, .slice (some ⟨b, off, none⟩) len2 cap2, .int .i64 j]) (by simp only [putE, e14, e17, e18, e19, e20]; go_simp) ?_⟩⟩
                exact (rpathG_any x0 x1 _ len2 cap2 z2 k j wx HE.out HQ.out hk6 HJ.out hS.2.1).mono fun e w2 ⟨v', h1, h2, _, h3⟩ => ⟨v', h1, (by rw [HPw.out]; exact h2), h3⟩
              · obtain ⟨h14, h16, h21⟩ := h
                have e14 : γ 14 = .bool true := h14
                have p16 : HoldsS wx (γ 16) k Pw := h16
                have p21 : HoldsS wx (γ 21) k Pw := h21
                refine ⟨_, rfl, Or.inl ⟨(by simp only [putE, e14]; first | kernel_rfl | rfl), predRun_call (f := 49) (args := #[γ 16, γ 21]) (by simp only [putE, e14]; go_simp) ?_⟩⟩
                exact (sames_any (γ 16) (γ 21) k k Pw Pw wx p16 p21 (by omega) (by omega)).mono fun e w2 ⟨h1, h2⟩ => ⟨_, h1, by simp, h2⟩
              · obtain ⟨h14, h22⟩ := h
                have e14 : γ 14 = .bool true := h14
                have e22 : γ 22 = .bool true := h22
                refine ⟨_, rfl, Or.inl ⟨rfl, predRun_value (v := .bool true) (by simp only [putE, e14, e22]; first | rfl | (go_simp; done) | (go_simp; with_reducible rfl) | (go_simp; rfl)) rfl⟩⟩
            · intro γ w9 hS h
              have e23 : γ 23 = .bool true := h.2.2.2.2.2.2.2.2.2.2.2.2.2.2.2.2.2.2.2.2.2.2.2
              have B10 := Kp.mk hS.2.2.2.2
              simp only [putE, Act.put, List.setIfInBounds_toArray, List.set_cons_zero, List.set_cons_succ]
              rw [e23]
              clear h hS e23
              refine wpOps_step rfl rfl ?_
              refine wp_assign_endD (d := some 8) (v := .bool true) rfl rfl rfl ?_
              simp only [Act.put, List.setIfInBounds_toArray, List.set_cons_zero, List.set_cons_succ]
              refine wpOps_done ?_
              go_wp2_with fail
              go_ret
              exact ⟨rfl, by rw [← HA.out]; exact B10.out.1⟩
          · refine (leafG_no x0 x1 z2 k G x3 w7 HL2.out (by rw [← HQ.out]; exact hjr) YG7.out).mono ?_
            rintro r w8 ⟨rfl, hb⟩
            have YG8 := Kp.mk (YG7.out.keep hb)
            have B8 : Kp (Below A w w8 ∧ A ≤ w8.heap.size) := ⟨B7.out.1.trans (hb.mono B7.out.2), Nat.le_trans B7.out.2 hb.size⟩
            clear hb YG7 Y7 B7
            obtain ⟨W9, hW9⟩ : ∃ W2, W2 = (w8.alloc z50).setRow w8.heap.size (kv .u8 zeroS).toArray := ⟨_, rfl⟩
            have hb9 : Below w8.heap.size w8 W9 := by rw [hW9]; exact Below.row (more (Below.refl _ _) z50) (Nat.le_refl _) _
            have YG9 := Kp.mk (YG8.out.keep hb9)
            have B9 : Kp (Below A w W9 ∧ A ≤ W9.heap.size) := ⟨B8.out.1.trans (hb9.mono B8.out.2), Nat.le_trans B8.out.2 hb9.size⟩
            clear hb9 YG8 B8
            have HZl : Kp ((zeroS : List Int).length = 16) := ⟨rfl⟩
            go_wp2_with (refine wpList_store_row rfl 33 (.tmp 13) (.tmp 84) rfl w8.heap.size (kv .u8 zeroS).toArray rfl rfl 33 _ (Blk.new w8 z50) (cells50 HZl.out) (size50 HZl.out) (kv_all _ _) ?_; refine wpl_world (· = W9) hW9.symm ?_; clear hW9; intro W0 e0; rw [e0]; clear e0)
            refine (pathO_no x0 x1 z2 k G x3 W9 HL2.out (by rw [← HQ.out]; exact hjr) YG9.out).mono ?_
            rintro r w10 ⟨rfl, e10⟩
            rw [e10]
            clear e10 w10
            by_cases q0 : x3 < 0
            · go_wp2_with fail
              go_ret
              exact ⟨rfl, by rw [← HA.out]; exact B9.out.1⟩
            · have q2 : ((len2 : Nat) : Int) ≤ x3 := by omega
              go_wp2_with fail
              go_ret
              exact ⟨rfl, by rw [← HA.out]; exact B9.out.1⟩
    · have HNo : Kp (∀ i : Nat, i < 7 → ((len2 : Nat) : Int) ≠ 2 ^ i) := ⟨fun i hi e => hp ⟨i, by omega, by have h2 : ((2 ^ i : Nat) : Int) = (2 : Int) ^ i := (by simp); omega⟩⟩
      clear hp HT3 HI3
      refine (newG_no x0 x1 a9 len2 c9 w3 HNo.out).mono ?_
      rintro r w4 ⟨rfl, e4⟩
      have HO4 : Kp (0 < len2 → ∃ I c cs, (Value.slice a9 len2 c9) = .slice (some ⟨I, 0, none⟩) len2 c ∧ A ≤ I ∧ Blk w4 I (.cells cs 33) ∧ len2 * 16 ≤ cs.size) := ⟨by rw [e4]; exact HO3.out⟩
      have BB4 : Kp (Below A w w4) := ⟨by rw [e4]; exact BB3.out⟩
      have HW4 : Kp (w4 = w4) := ⟨rfl⟩
      clear e4 HO3 BB3 Y3
      obtain ⟨W5, hW5⟩ : ∃ W, W = w4 := ⟨_, rfl⟩
      have HZ5 : Kp (0 < len2 → ∃ I c cs, (Value.slice a9 len2 c9) = .slice (some ⟨I, 0, none⟩) len2 c ∧ A ≤ I ∧ Blk w4 I (.cells cs 33) ∧ len2 * 16 ≤ cs.size) := HO4
      have HG5 : Kp (W5.grownBy w4 (Value.slice a9 len2 c9).ownBlock) := ⟨by rw [hW5]; exact ⟨rfl, rfl, rfl, Nat.le_refl _, fun k _ _ => rfl⟩⟩
      rw [← hW5] at HW4
      clear hW5 HO4
      go_wp2_with fail
      go_loopw [12, 33] (fun _ c wr => ∃ i : Nat, i ≤ len2 ∧ c = .int .i64 i ∧ Kp (0 < len2 → ∃ I c cs, (Value.slice a9 len2 c9) = .slice (some ⟨I, 0, none⟩) len2 c ∧ A ≤ I ∧ Blk wr I (.cells cs 33) ∧ len2 * 16 ≤ cs.size) ∧ Kp (W5.grownBy wr (Value.slice a9 len2 c9).ownBlock) ∧ Kp (Below A w wr)) (fun _ c _ => len2 - (intOf c).toNat)
      case atStart => exact ⟨0, by omega, rfl, HZ5, HG5, BB4⟩
      case round =>
        obtain ⟨i, hi, rfl, E1, E2, E3⟩ := hrel
        clear HZ5 HG5 BB4
        by_cases hlt : i < len2
        · obtain ⟨I, cI, cs, e9, hAI, hbk, hcs⟩ := E1.out (by omega)
          simp only [Value.slice.injEq, true_and] at e9
          obtain ⟨rfl, rfl⟩ := e9
          have HT := Kp.mk (blk_there hbk hlt hcs)
          obtain ⟨cs', hb', hs'⟩ := Blk.setCells_size (kv .u8 zeroS) (i * 16) wr cs hbk
          obtain ⟨W9, hW9⟩ : ∃ W, W = wr.setCells I (i * 16) (kv .u8 zeroS).toArray.toList := ⟨_, rfl⟩
          have hW9' : W9 = wr.setCells I (i * 16) (kv .u8 zeroS) := hW9
          have F1 : Kp (0 < len2 → ∃ I' c cs, (Value.slice (some ⟨I, 0, none⟩) len2 c9) = .slice (some ⟨I', 0, none⟩) len2 c ∧ A ≤ I' ∧ Blk W9 I' (.cells cs 33) ∧ len2 * 16 ≤ cs.size) := ⟨fun _ => ⟨I, c9, cs', rfl, hAI, by rw [hW9']; exact hb', by omega⟩⟩
          have F2 : Kp (W5.grownBy W9 (some I)) := ⟨by rw [hW9']; exact grown_setCells _ _ _ E2.out⟩
          have F3 : Kp (Below A w W9) := ⟨by rw [hW9']; exact Below.cells hAI _ _ _ _ E3.out⟩
          clear hW9'
          have HZl : Kp ((zeroS : List Int).length = 16) := ⟨rfl⟩
          clear hbk hb' hs' hcs hAI E1 E2 E3
          have hlc : (i : Int) < ((len2 : Nat) : Int) := by omega
          have hl0 : (0 : Int) ≤ (i : Int) := by omega
          go_wp2_with (refine wpList_store_mid rfl 33 (.tmp 39) (.tmp 38) rfl I (i * 16) (kv .u8 zeroS).toArray rfl rfl (by rw [kv_size, HZl.out]; exact HT.out) (cells50 HZl.out) (kv_all _ _) ?_; refine wpl_world (· = W9) hW9.symm ?_; clear hW9; intro W0 e0; rw [e0]; clear e0)
          exact ⟨⟨i + 1, by omega, by go_num, F1, F2, F3⟩, by simp [intOf]; omega⟩
        · have hge : ¬ (i : Int) < ((len2 : Nat) : Int) := by omega
          clear E1
          go_wp2_with fail
          refine (height_no len2 wr HNo.out).mono ?_
          rintro r w1 ⟨rfl, e1⟩
          rw [e1]
          clear e1 w1
          go_wp2_with fail
          refine (rheight_no len2 wr HNo.out).mono ?_
          rintro r w1 ⟨rfl, e1⟩
          rw [e1]
          clear e1 w1
          go_wp2_with fail
          refine (rheight_no len2 wr HNo.out).mono ?_
          rintro r w1 ⟨rfl, e1⟩
          rw [e1]
          clear e1 w1
          go_wp2_with fail
          refine (awake7 wr).mono ?_
          rintro r w6 ⟨rfl, hb⟩
          have B6 : Kp (Below A w w6) := ⟨E3.out.trans (hb.mono (E3sz E3.out HA.out))⟩
          clear hb
          have hqp : ∀ w, (binOp .eql 85 (.pointer none) (.pointer none)).run Tryd.prog w = .ok (.bool true) w := fun w => rfl
          go_wp2_with fail
          go_ret
          exact ⟨rfl, by rw [← HA.out]; exact B6.out⟩
end Go.Proofs.YtahmioiefmheeaaDoor
