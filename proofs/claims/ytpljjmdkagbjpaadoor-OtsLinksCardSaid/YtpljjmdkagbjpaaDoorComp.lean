/-
  (*sha.Hash).compress: one block taken into the state.
-/
import Derived.Test.YtpljjmdkagbjpaaDoorHash
namespace Go.Proofs.YtpljjmdkagbjpaaDoor
open Go.RowKit

theorem rnds_succ (s : St) (ws : List Int) (k : Nat) : rnds s ws (k + 1) = round (rnds s ws k) (kon.getD k 0) (ws.getD k 0) := rfl
theorem step1_eq (t : St) (kk ww T : Int) (h : (((t.h + bits BinOp.xor IntKind.u32 (bits BinOp.xor IntKind.u32 (rot t.e 6) (rot t.e 11)) (rot t.e 25) + bits BinOp.xor IntKind.u32 (bits BinOp.and IntKind.u32 t.e t.f)
    (bits BinOp.and IntKind.u32 (bits BinOp.xor IntKind.u32 (if IntKind.u32.signed = true then -1 else IntKind.u32.max) t.e) t.g) + kk) % 4294967296 + ww) % 4294967296 = T)) : T = step1 t kk ww := by
  rw [← h]
  unfold step1 w32 bg1 chs inv
  rw [show (if IntKind.u32.signed = true then -1 else IntKind.u32.max) = (4294967295 : Int) from rfl]
  simp only [w32_mod]
  omega
theorem round_a (t : St) (kk ww : Int) : (round t kk ww).a = (step1 t kk ww + (bits BinOp.xor IntKind.u32 (bits BinOp.xor IntKind.u32 (rot t.a 2) (rot t.a 13)) (rot t.a 22) + bits BinOp.xor IntKind.u32
    (bits BinOp.xor IntKind.u32 (bits BinOp.and IntKind.u32 t.a t.b) (bits BinOp.and IntKind.u32 t.a t.c)) (bits BinOp.and IntKind.u32 t.b t.c)) % 4294967296) % 4294967296 := by
  unfold round step2 w32 bg0 maj
  simp only [w32_mod]
theorem round_e (t : St) (kk ww : Int) : (round t kk ww).e = (t.d + step1 t kk ww) % 4294967296 := by
  unfold round w32
  simp only [w32_mod]
abbrev z70 : Obj := .cells (kv .u32 (fill 64 [])).toArray 147
set_option maxRecDepth 100000 in
set_option maxHeartbeats 2000000 in
theorem compress_any (M b : Nat) (s : St) (rest : List Int) (n : Int) (v : Value) (l : List Int) (w : World) (hk : KonIs w) (hB : Blk w b (hashObj s.list rest n)) (hr : rest.length = 64) (h : HoldsB w M v l) (hl : l.length = 64) :
    Calls Tryd.prog 88 #[.pointer (some ⟨b, 0, none⟩), v] w fun r w' => r = .returned (.tuple #[]) ∧ Turn b (hashObj (block s l).list rest n) w w' := by
  have HK := Lib.hid hk
  have HB := Lib.hid hB
  have HR := Lib.hid hr
  have H := Lib.hid h
  have HL := Lib.hid hl
  clear hk hB hr h hl
  go_enter Tryd.func88, Tryd.ntmps88
  go_wp2_with fail
  refine (schedule_any M v l _ H.out HL.out).mono ?_
  rintro r w1 ⟨rfl, h1⟩
  have HB1 := Lib.hid h1
  have HC := Kp.mk (cells70 (l := sched l 48) (by rw [sched_len]))
  have HZ : Kp ((kv .u32 (fill 64 [])).toArray.size = (kv .u32 (sched l 48)).toArray.size) := ⟨by rw [kv_size, kv_size, sched_len]; rfl⟩
  clear h1
  go_wp2_with (first
    | (refine wpList_store_row rfl 147 (.tmp 4) (.tmp 20) rfl w1.heap.size (kv .u32 (sched l 48)).toArray rfl rfl 147 _ (Blk.new w1 z70) HC.out HZ.out (kv_all _ _) ?_))
  refine wp_world (fun w2 => Row w2 w1.heap.size 147 .u32 (sched l 48) ∧ Below w.heap.size w w2) ⟨Row.setRow (k := .u32) (l := fill 64 []) (Blk.new w1 z70) _, Below.row (more HB1.out z70) HB1.out.size _⟩ ?_
  rintro w2 ⟨hw2, hb2⟩
  have HW2 := Lib.hid hw2
  have HB2 := Lib.hid hb2
  have cell : ∀ i, i < 8 → w2.cell? ⟨b, i, none⟩ = some (.int .u32 (s.list.getD i 0)) := fun i hi => by
    rw [(HB.out.upto hb2 HB.out.lt).cell, hash_state (by rw [list_len]; omega)]
  have c0 : w2.cell? ⟨b, 0, none⟩ = some (.int .u32 s.a) := cell 0 (by omega)
  have c1 : w2.cell? ⟨b, 1, none⟩ = some (.int .u32 s.b) := cell 1 (by omega)
  have c2 : w2.cell? ⟨b, 2, none⟩ = some (.int .u32 s.c) := cell 2 (by omega)
  have c3 : w2.cell? ⟨b, 3, none⟩ = some (.int .u32 s.d) := cell 3 (by omega)
  have c4 : w2.cell? ⟨b, 4, none⟩ = some (.int .u32 s.e) := cell 4 (by omega)
  have c5 : w2.cell? ⟨b, 5, none⟩ = some (.int .u32 s.f) := cell 5 (by omega)
  have c6 : w2.cell? ⟨b, 6, none⟩ = some (.int .u32 s.g) := cell 6 (by omega)
  have c7 : w2.cell? ⟨b, 7, none⟩ = some (.int .u32 s.h) := cell 7 (by omega)
  have HB3 := Lib.hid (HB.out.upto hb2 HB.out.lt)
  have HK2 := Lib.hid (HK.out.keep hb2)
  clear hw2 hb2 cell
  go_wp2_with fail
  go_quiet (fail)
  go_wp2_with fail
  go_quiet (fail)
  go_wp2_with fail
  go_loopw [5, 6, 7, 8, 9, 10, 11, 12, 61] (fun xa xb xc xd xe xf xg xh c wr => ∃ (k : Nat) (ta tb tc td te tf tg th : Int), k ≤ 64 ∧ c = .int .i64 k ∧ Kp (St.mk ta tb tc td te tf tg th = rnds s (sched l 48) k) ∧ xa = .int .u32 ta ∧ xb = .int .u32 tb ∧ xc = .int .u32 tc ∧ xd = .int .u32 td ∧
    xe = .int .u32 te ∧ xf = .int .u32 tf ∧ xg = .int .u32 tg ∧ xh = .int .u32 th ∧ Row wr w1.heap.size 147 .u32 (sched l 48) ∧ Below w.heap.size w wr) (fun _ _ _ _ _ _ _ _ c _ => 64 - (intOf c).toNat)
  case atStart => exact ⟨0, s.a, s.b, s.c, s.d, s.e, s.f, s.g, s.h, by omega, rfl, ⟨rfl⟩, rfl, rfl, rfl, rfl, rfl, rfl, rfl, rfl, HW2.out, by exact below_drewN (below_drewN HB2.out _) _⟩
  case round =>
    obtain ⟨k, ta, tb, tc, td, te, tf, tg, th, hk, rfl, HT, rfl, rfl, rfl, rfl, rfl, rfl, rfl, rfl, hrow, hbel⟩ := hrel
    have HRo := Lib.hid hrow
    have HBe := Lib.hid hbel
    clear hrow hbel c0 c1 c2 c3 c4 c5 c6 c7
    by_cases hlt : k < 64
    · have ck := (HK.out.keep HBe.out) k hlt
      have cw := HRo.out.cell (i := k) (by rw [sched_len]; omega)
      have HS := Kp.mk (rnds_succ s (sched l 48) k)
      rw [← HT.out] at HS
      generalize kon.getD k 0 = kk at *
      generalize (sched l 48).getD k 0 = ww at *
      have k64 : (k : Int) < 64 := by omega
      go_wp2_with fail
      refine (rotl _ 6 (-6) _ (by decide) (by decide) (by decide)).mono ?_
      rintro r w3 ⟨rfl, rfl⟩
      go_wp2_with fail
      refine (rotl _ 11 (-11) _ (by decide) (by decide) (by decide)).mono ?_
      rintro r w3 ⟨rfl, rfl⟩
      go_wp2_with fail
      refine (rotl _ 25 (-25) _ (by decide) (by decide) (by decide)).mono ?_
      rintro r w3 ⟨rfl, rfl⟩
      go_wp2_with fail
      go_quiet (fail)
      generalize hT1 : ((_ + ww) % 4294967296 : Int) = T1
      have HT1 := Kp.mk hT1
      have HK3 := Lib.hid HRo.out
      have HB5 := Lib.hid HBe.out
      clear hT1 ck cw
      have HR5 := Lib.hid (HRo.out.drewN nq)
      have HB6 := Lib.hid (below_drewN HBe.out nq)
      clear HRo HBe HK3 HB5
      generalize wr.drewN nq = w3 at *
      generalize hI : bits .xor .u32 (if IntKind.u32.signed = true then -1 else IntKind.u32.max) te = ie
      generalize hG : bits .xor .u32 (bits .xor .u32 (rot te 6) (rot te 11)) (rot te 25) = g1
      generalize hA : bits .and .u32 ie tg = y1
      generalize hA2 : bits .and .u32 te tf = y2
      generalize hA3 : bits .xor .u32 y2 y1 = y3
      generalize ((_ + y3) % 4294967296 : Int) = y4
      generalize ((_ + g1) % 4294967296 : Int) = y5
      generalize ((_ + kk) % 4294967296 : Int) = y6
      clear hI hG hA hA2 hA3
      go_wp2_with fail
      refine (rotl _ 2 (-2) _ (by decide) (by decide) (by decide)).mono ?_
      rintro r w4 ⟨rfl, rfl⟩
      go_wp2_with fail
      refine (rotl _ 13 (-13) _ (by decide) (by decide) (by decide)).mono ?_
      rintro r w4 ⟨rfl, rfl⟩
      go_wp2_with fail
      refine (rotl _ 22 (-22) _ (by decide) (by decide) (by decide)).mono ?_
      rintro r w4 ⟨rfl, rfl⟩
      go_wp2_with fail
      go_roundw
      case rel =>
        refine ⟨k + 1, _, _, _, _, _, _, _, _, by omega, by go_num, ?_, rfl, rfl, rfl, rfl, rfl, rfl, rfl, rfl, HR5.out, HB6.out⟩
        have h1 := step1_eq ⟨ta, tb, tc, td, te, tf, tg, th⟩ kk ww T1 HT1.out
        have h2 := round_a ⟨ta, tb, tc, td, te, tf, tg, th⟩ kk ww
        have h3 := round_e ⟨ta, tb, tc, td, te, tf, tg, th⟩ kk ww
        rw [← h1] at h2 h3
        refine ⟨Eq.trans ?_ HS.out.symm⟩
        rw [← h2, ← h3]
        rfl
      case measure => simp [intOf]; omega
    · have HK64 : Hid (k = 64) := by show _ = _; omega
      have HT2 : Kp (St.mk ta tb tc td te tf tg th = rnds s (sched l 48) 64) := by
        have h := HT.out
        rw [HK64.out] at h
        exact ⟨h⟩
      have hge : 64 ≤ (k : Int) := by omega
      have HTu := Lib.hid (Turn.of HB.out HBe.out)
      clear hlt hk HT HRo
      go_wp2_with fail
      clear hge
      go_loopw [135] (fun c wr => ∃ j : Nat, j ≤ 8 ∧ c = .int .i64 j ∧ Turn b (hashObj (mix s (s.add ⟨ta, tb, tc, td, te, tf, tg, th⟩) j) rest n) w wr) (fun c _ => 8 - (intOf c).toNat)
      case atStart => exact ⟨0, by omega, rfl, by rw [mix_zero]; exact HTu.out⟩
      case round =>
        obtain ⟨j, hj, rfl, htu⟩ := hrel
        have HTv := Lib.hid htu
        clear htu HTu HBe
        by_cases hlt : j < 8
        · have hidx := index68 ⟨ta, tb, tc, td, te, tf, tg, th⟩ j hlt
          have cs : wr.cell? ⟨b, j, none⟩ = some (.int .u32 (s.list.getD j 0)) := by
            rw [HTv.out.blk.cell, hash_state (by rw [mix_len _ _ _ hj]; exact hlt), mix_get _ _ _ hlt]
          have HA := Kp.mk (add_get s ⟨ta, tb, tc, td, te, tf, tg, th⟩ j hlt)
          have HJ := Lib.hid hlt
          generalize s.list.getD j 0 = y0 at *
          generalize (St.mk ta tb tc td te tf tg th).list.getD j 0 = y1 at *
          go_wp2_with fail
          clear hidx
          have j8 : (j : Int) < 8 := by omega
          go_still_tail 11, (by kernel_rfl)
          clear cs
          refine wpl_world (fun w2 => Turn b (hashObj (mix s (s.add ⟨ta, tb, tc, td, te, tf, tg, th⟩) j) rest n) w w2) HTv.out.drew ?_
          intro w2 htv2
          have HT2 := Lib.hid htv2
          have fw := htv2.blk.frozen j
          have cw : w2.cell? ⟨b, j, none⟩ = some (.int .u32 ((mix s (s.add ⟨ta, tb, tc, td, te, tf, tg, th⟩) j).getD j 0)) := by
            rw [htv2.blk.cell, hash_state (by rw [mix_len _ _ _ hj]; exact hlt)]
          clear htv2
          go_wp2_with fail
          go_roundw
          case rel =>
            refine ⟨j + 1, by omega, by go_num, ?_⟩
            refine (HT2.out.set j _).as ?_
            show Obj.cells _ 145 (0, 0) = Obj.cells _ 145 (0, 0)
            rw [hash_set (by rw [mix_len _ _ _ hj]; exact hlt), mix_set _ _ _ hlt _ HA.out.symm]
          case measure => simp [intOf]; omega
        · have HJ : Hid (j = 8) := by show _ = _; omega
          have hge : 8 ≤ (j : Int) := by omega
          clear hlt hj
          go_wp2_with fail
          go_end0
          refine ⟨rfl, ?_⟩
          have h := HTv.out
          rw [HJ.out, mix_full, HT2.out] at h
          exact h
end Go.Proofs.YtpljjmdkagbjpaaDoor
