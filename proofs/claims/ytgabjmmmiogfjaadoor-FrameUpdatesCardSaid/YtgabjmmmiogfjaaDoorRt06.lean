/-
  A sum that is under way, as it stands in memory; the constants; (*sha.Hash).compress.
  (*sha.Hash).compress: one block taken into the state.
  Bytes that stand apart from a block; a copy into the bytes that wait; what a sum under way has taken in.
  sha.New.
  (*sha.Hash).Write.
  How many blocks bytes take: sha.Blocks and the document's.
  (*sha.Hash).end: what stands behind the last byte is taken in. (*sha.Hash).Blocks.
-/
import Derived.Test.YtgabjmmmiogfjaaDoorRt05
namespace Go.Proofs.YtgabjmmmiogfjaaDoor
open Go.RowKit

/-- The package's variable holds the standard's constants. -/
def KonIs (w : World) : Prop := ∀ i, i < 64 → w.cell? ⟨0, i, none⟩ = some (.int .u32 (kon.getD i 0))
theorem KonIs.pos {w : World} (h : KonIs w) : 0 < w.heap.size := World.block_lt_of_cell? w _ (h 0 (by omega))
theorem KonIs.frame {w w' : World} (h : KonIs w) (hb : w'.heap[0]? = w.heap[0]?) : KonIs w' := fun i hi => (World.cell?_of_block (w := w) (a := ⟨0, i, none⟩) hb).trans (h i hi)
theorem KonIs.keep {w w' : World} (h : KonIs w) (hb : Below w.heap.size w w') : KonIs w' := h.frame (hb.block 0 h.pos)
theorem KonIs.turn {w w' : World} {b : Nat} {o : Obj} (h : KonIs w) (hb : Turn b o w w') (h0 : 0 < b) : KonIs w' := h.frame (hb.other 0 h.pos (by omega))
/-- The cells of a sum under way: the state's numbers, the bytes that wait, how many were taken. -/
def hashCells (sl rest : List Int) (n : Int) : List Value := kv .u32 sl ++ (kv .u8 rest ++ [.int .i64 n])
abbrev hashObj (sl rest : List Int) (n : Int) : Obj := .cells (hashCells sl rest n).toArray 174
theorem hash_state {sl rest : List Int} {n : Int} {i : Nat} (h : i < sl.length) : (hashCells sl rest n).toArray[i]? = some (.int .u32 (sl.getD i 0)) := by
  simp [hashCells, List.getElem?_append_left, h, List.getD_eq_getElem?_getD]
theorem hash_rest {sl rest : List Int} {n : Int} {i : Nat} (hs : sl.length = 8) (h : i < rest.length) : (hashCells sl rest n).toArray[8 + i]? = some (.int .u8 (rest.getD i 0)) := by
  simp only [hashCells, List.getElem?_toArray]
  rw [List.getElem?_append_right (by simp; omega), List.length_map, hs, Nat.add_sub_cancel_left, List.getElem?_append_left (by simpa using h)]
  simp [h, List.getD_eq_getElem?_getD]
theorem hash_taken {sl rest : List Int} {n : Int} (hs : sl.length = 8) (hr : rest.length = 64) : (hashCells sl rest n).toArray[72]? = some (.int .i64 n) := by
  simp only [hashCells, List.getElem?_toArray]
  rw [List.getElem?_append_right (by simp; omega), List.length_map, hs, List.getElem?_append_right (by simp; omega), List.length_map, hr]
  rfl
theorem hash_set {sl rest : List Int} {n : Int} {i : Nat} (h : i < sl.length) (x : Int) : (hashCells sl rest n).toArray.setIfInBounds i (.int .u32 x) = (hashCells (sl.set i x) rest n).toArray := by
  simp only [hashCells, List.setIfInBounds_toArray]
  congr 1
  rw [List.set_append_left _ _ (by simpa using h)]
  unfold kv
  rw [List.map_set]
theorem hash_size {sl rest : List Int} {n : Int} (hs : sl.length = 8) (hr : rest.length = 64) : (hashCells sl rest n).toArray.size = 73 := by
  simp [hashCells, hs, hr]
theorem list_len (s : St) : s.list.length = 8 := rfl
/-- Of two states the first k numbers of the one, the others of the other. -/
def mix (x y : St) (k : Nat) : List Int := y.list.take k ++ x.list.drop k
theorem mix_len (x y : St) (k : Nat) (h : k ≤ 8) : (mix x y k).length = 8 := by simp [mix, list_len]; omega
theorem mix_zero (x y : St) : mix x y 0 = x.list := by simp [mix]
theorem mix_full (x y : St) : mix x y 8 = y.list := by simp [mix, St.list]
theorem mix_get (x y : St) (k : Nat) (h : k < 8) : (mix x y k).getD k 0 = x.list.getD k 0 := by
  match k, h with
  | 0, _ => rfl
  | 1, _ => rfl
  | 2, _ => rfl
  | 3, _ => rfl
  | 4, _ => rfl
  | 5, _ => rfl
  | 6, _ => rfl
  | 7, _ => rfl
theorem mix_set (x y : St) (k : Nat) (h : k < 8) (v : Int) (hv : v = y.list.getD k 0) : (mix x y k).set k v = mix x y (k + 1) := by
  subst hv
  match k, h with
  | 0, _ => rfl
  | 1, _ => rfl
  | 2, _ => rfl
  | 3, _ => rfl
  | 4, _ => rfl
  | 5, _ => rfl
  | 6, _ => rfl
  | 7, _ => rfl
theorem add_get (x y : St) (k : Nat) (h : k < 8) : (x.add y).list.getD k 0 = (x.list.getD k 0 + y.list.getD k 0) % 4294967296 := by
  match k, h with
  | 0, _ => exact w32_mod _
  | 1, _ => exact w32_mod _
  | 2, _ => exact w32_mod _
  | 3, _ => exact w32_mod _
  | 4, _ => exact w32_mod _
  | 5, _ => exact w32_mod _
  | 6, _ => exact w32_mod _
  | 7, _ => exact w32_mod _
theorem index68 (x : St) (k : Nat) (h : k < 8) (w : World) :
    (Instr.index 168 (.agg #[.int .u32 x.a, .int .u32 x.b, .int .u32 x.c, .int .u32 x.d, .int .u32 x.e, .int .u32 x.f, .int .u32 x.g, .int .u32 x.h]) (.int .i64 k)).run Tryd.prog w = .ok (.int .u32 (x.list.getD k 0)) w := by
  have i0 : ∀ a b c d e f g h : Int, (Instr.index 168 (.agg #[.int .u32 a, .int .u32 b, .int .u32 c, .int .u32 d, .int .u32 e, .int .u32 f, .int .u32 g, .int .u32 h]) (.int .i64 0)).run Tryd.prog w = .ok (.int .u32 a) w := fun _ _ _ _ _ _ _ _ => by kernel_rfl
  have i1 : ∀ a b c d e f g h : Int, (Instr.index 168 (.agg #[.int .u32 a, .int .u32 b, .int .u32 c, .int .u32 d, .int .u32 e, .int .u32 f, .int .u32 g, .int .u32 h]) (.int .i64 1)).run Tryd.prog w = .ok (.int .u32 b) w := fun _ _ _ _ _ _ _ _ => by kernel_rfl
  have i2 : ∀ a b c d e f g h : Int, (Instr.index 168 (.agg #[.int .u32 a, .int .u32 b, .int .u32 c, .int .u32 d, .int .u32 e, .int .u32 f, .int .u32 g, .int .u32 h]) (.int .i64 2)).run Tryd.prog w = .ok (.int .u32 c) w := fun _ _ _ _ _ _ _ _ => by kernel_rfl
  have i3 : ∀ a b c d e f g h : Int, (Instr.index 168 (.agg #[.int .u32 a, .int .u32 b, .int .u32 c, .int .u32 d, .int .u32 e, .int .u32 f, .int .u32 g, .int .u32 h]) (.int .i64 3)).run Tryd.prog w = .ok (.int .u32 d) w := fun _ _ _ _ _ _ _ _ => by kernel_rfl
  have i4 : ∀ a b c d e f g h : Int, (Instr.index 168 (.agg #[.int .u32 a, .int .u32 b, .int .u32 c, .int .u32 d, .int .u32 e, .int .u32 f, .int .u32 g, .int .u32 h]) (.int .i64 4)).run Tryd.prog w = .ok (.int .u32 e) w := fun _ _ _ _ _ _ _ _ => by kernel_rfl
  have i5 : ∀ a b c d e f g h : Int, (Instr.index 168 (.agg #[.int .u32 a, .int .u32 b, .int .u32 c, .int .u32 d, .int .u32 e, .int .u32 f, .int .u32 g, .int .u32 h]) (.int .i64 5)).run Tryd.prog w = .ok (.int .u32 f) w := fun _ _ _ _ _ _ _ _ => by kernel_rfl
  have i6 : ∀ a b c d e f g h : Int, (Instr.index 168 (.agg #[.int .u32 a, .int .u32 b, .int .u32 c, .int .u32 d, .int .u32 e, .int .u32 f, .int .u32 g, .int .u32 h]) (.int .i64 6)).run Tryd.prog w = .ok (.int .u32 g) w := fun _ _ _ _ _ _ _ _ => by kernel_rfl
  have i7 : ∀ a b c d e f g h : Int, (Instr.index 168 (.agg #[.int .u32 a, .int .u32 b, .int .u32 c, .int .u32 d, .int .u32 e, .int .u32 f, .int .u32 g, .int .u32 h]) (.int .i64 7)).run Tryd.prog w = .ok (.int .u32 h) w := fun _ _ _ _ _ _ _ _ => by kernel_rfl
  match k, h with
  | 0, _ => exact i0 ..
  | 1, _ => exact i1 ..
  | 2, _ => exact i2 ..
  | 3, _ => exact i3 ..
  | 4, _ => exact i4 ..
  | 5, _ => exact i5 ..
  | 6, _ => exact i6 ..
  | 7, _ => exact i7 ..
end Go.Proofs.YtgabjmmmiogfjaaDoor

namespace Go.Proofs.YtgabjmmmiogfjaaDoor
open Go.RowKit

theorem rnds_succ (s : St) (ws : List Int) (k : Nat) : rnds s ws (k + 1) = round (rnds s ws k) (kon.getD k 0) (ws.getD k 0) := rfl
theorem step1_eq (t : St) (kk ww T : Int) (h : (((t.h + bits BinOp.xor IntKind.u32 (bits BinOp.xor IntKind.u32 (rot t.e 6) (rot t.e 11)) (rot t.e 25) + bits BinOp.xor IntKind.u32 (bits BinOp.and IntKind.u32 t.e t.f)
    (bits BinOp.and IntKind.u32 (bits BinOp.xor IntKind.u32 (if IntKind.u32.signed = true then -1 else IntKind.u32.max) t.e) t.g) + kk) % 4294967296 + ww) % 4294967296 = T)) : T = step1 t kk ww := by
  rw [← h]
  unfold step1 w32 bg1 chs inv
  rw [show (if IntKind.u32.signed = true then -1 else IntKind.u32.max) = (4294967295 : Int) from rfl]
  simp only [w32_mod]
  omega
theorem round_a (t : St) (kk ww : Int) : (round t kk ww).a = (step1 t kk ww + (bits BinOp.xor IntKind.u32 (bits BinOp.xor IntKind.u32 (rot t.a 2) (rot t.a 13)) (rot t.a 22) + bits BinOp.xor IntKind.u32
    (bits BinOp.xor IntKind.u32 (bits BinOp.and IntKind.u32 t.a t.b) (bits BinOp.and IntKind.u32 t.a t.c)) (bits BinOp.and IntKind.u32 t.b t.c)) % 4294967296) % 4294967296 := by
  unfold round step2 w32 bg0 maj
  simp only [w32_mod]
theorem round_e (t : St) (kk ww : Int) : (round t kk ww).e = (t.d + step1 t kk ww) % 4294967296 := by
  unfold round w32
  simp only [w32_mod]
abbrev z70 : Obj := .cells (kv .u32 (fill 64 [])).toArray 170
set_option maxRecDepth 100000 in
set_option maxHeartbeats 2000000 in
theorem compress_any (M b : Nat) (s : St) (rest : List Int) (n : Int) (v : Value) (l : List Int) (w : World) (hk : KonIs w) (hB : Blk w b (hashObj s.list rest n)) (hr : rest.length = 64) (h : HoldsB w M v l) (hl : l.length = 64) :
    Calls Tryd.prog 115 #[.pointer (some ⟨b, 0, none⟩), v] w fun r w' => r = .returned (.tuple #[]) ∧ Turn b (hashObj (block s l).list rest n) w w' := by
  have HK := Lib.hid hk
  have HB := Lib.hid hB
  have HR := Lib.hid hr
  have H := Lib.hid h
  have HL := Lib.hid hl
  clear hk hB hr h hl
  go_enter Tryd.func115, Tryd.ntmps115
  go_wp2_with fail
  refine (schedule_any M v l _ H.out HL.out).mono ?_
  rintro r w1 ⟨rfl, h1⟩
  have HB1 := Lib.hid h1
  have HC := Kp.mk (cells70 (l := sched l 48) (by rw [sched_len]))
  have HZ : Kp ((kv .u32 (fill 64 [])).toArray.size = (kv .u32 (sched l 48)).toArray.size) := ⟨by rw [kv_size, kv_size, sched_len]; rfl⟩
  clear h1
  go_wp2_with (first
    | (refine wpList_store_row rfl 170 (.tmp 4) (.tmp 20) rfl w1.heap.size (kv .u32 (sched l 48)).toArray rfl rfl 170 _ (Blk.new w1 z70) HC.out HZ.out (kv_all _ _) ?_))
  refine wp_world (fun w2 => Row w2 w1.heap.size 170 .u32 (sched l 48) ∧ Below w.heap.size w w2) ⟨Row.setRow (k := .u32) (l := fill 64 []) (Blk.new w1 z70) _, Below.row (more HB1.out z70) HB1.out.size _⟩ ?_
  rintro w2 ⟨hw2, hb2⟩
  have HW2 := Lib.hid hw2
  have HB2 := Lib.hid hb2
  have cell : ∀ i, i < 8 → w2.cell? ⟨b, i, none⟩ = some (.int .u32 (s.list.getD i 0)) := fun i hi => by
    rw [(HB.out.upto hb2 HB.out.lt).cell, hash_state (by rw [list_len]; omega)]
  have c0 : w2.cell? ⟨b, 0, none⟩ = some (.int .u32 s.a) := cell 0 (by omega)
  have c1 : w2.cell? ⟨b, 1, none⟩ = some (.int .u32 s.b) := cell 1 (by omega)
  have c2 : w2.cell? ⟨b, 2, none⟩ = some (.int .u32 s.c) := cell 2 (by omega)
  have c3 : w2.cell? ⟨b, 3, none⟩ = some (.int .u32 s.d) := cell 3 (by omega)
  have c4 : w2.cell? ⟨b, 4, none⟩ = some (.int .u32 s.e) := cell 4 (by omega)
  have c5 : w2.cell? ⟨b, 5, none⟩ = some (.int .u32 s.f) := cell 5 (by omega)
  have c6 : w2.cell? ⟨b, 6, none⟩ = some (.int .u32 s.g) := cell 6 (by omega)
  have c7 : w2.cell? ⟨b, 7, none⟩ = some (.int .u32 s.h) := cell 7 (by omega)
  have HB3 := Lib.hid (HB.out.upto hb2 HB.out.lt)
  have HK2 := Lib.hid (HK.out.keep hb2)
  clear hw2 hb2 cell
  go_wp2_with fail
  go_quiet (fail)
  go_wp2_with fail
  go_quiet (fail)
  go_wp2_with fail
  go_loopw [5, 6, 7, 8, 9, 10, 11, 12, 61] (fun xa xb xc xd xe xf xg xh c wr => ∃ (k : Nat) (ta tb tc td te tf tg th : Int), k ≤ 64 ∧ c = .int .i64 k ∧ Kp (St.mk ta tb tc td te tf tg th = rnds s (sched l 48) k) ∧ xa = .int .u32 ta ∧ xb = .int .u32 tb ∧ xc = .int .u32 tc ∧ xd = .int .u32 td ∧
    xe = .int .u32 te ∧ xf = .int .u32 tf ∧ xg = .int .u32 tg ∧ xh = .int .u32 th ∧ Row wr w1.heap.size 170 .u32 (sched l 48) ∧ Below w.heap.size w wr) (fun _ _ _ _ _ _ _ _ c _ => 64 - (intOf c).toNat)
  case atStart => exact ⟨0, s.a, s.b, s.c, s.d, s.e, s.f, s.g, s.h, by omega, rfl, ⟨rfl⟩, rfl, rfl, rfl, rfl, rfl, rfl, rfl, rfl, HW2.out, by exact below_drewN (below_drewN HB2.out _) _⟩
  case round =>
    obtain ⟨k, ta, tb, tc, td, te, tf, tg, th, hk, rfl, HT, rfl, rfl, rfl, rfl, rfl, rfl, rfl, rfl, hrow, hbel⟩ := hrel
    have HRo := Lib.hid hrow
    have HBe := Lib.hid hbel
    clear hrow hbel c0 c1 c2 c3 c4 c5 c6 c7
    by_cases hlt : k < 64
    · have ck := (HK.out.keep HBe.out) k hlt
      have cw := HRo.out.cell (i := k) (by rw [sched_len]; omega)
      have HS := Kp.mk (rnds_succ s (sched l 48) k)
      rw [← HT.out] at HS
      generalize kon.getD k 0 = kk at *
      generalize (sched l 48).getD k 0 = ww at *
      have k64 : (k : Int) < 64 := by omega
      go_wp2_with fail
      refine (rotl _ 6 (-6) _ (by decide) (by decide) (by decide)).mono ?_
      rintro r w3 ⟨rfl, rfl⟩
      go_wp2_with fail
      refine (rotl _ 11 (-11) _ (by decide) (by decide) (by decide)).mono ?_
      rintro r w3 ⟨rfl, rfl⟩
      go_wp2_with fail
      refine (rotl _ 25 (-25) _ (by decide) (by decide) (by decide)).mono ?_
      rintro r w3 ⟨rfl, rfl⟩
      go_wp2_with fail
      go_quiet (fail)
      generalize hT1 : ((_ + ww) % 4294967296 : Int) = T1
      have HT1 := Kp.mk hT1
      have HK3 := Lib.hid HRo.out
      have HB5 := Lib.hid HBe.out
      clear hT1 ck cw
      have HR5 := Lib.hid (HRo.out.drewN nq)
      have HB6 := Lib.hid (below_drewN HBe.out nq)
      clear HRo HBe HK3 HB5
      generalize wr.drewN nq = w3 at *
      generalize hI : bits .xor .u32 (if IntKind.u32.signed = true then -1 else IntKind.u32.max) te = ie
      generalize hG : bits .xor .u32 (bits .xor .u32 (rot te 6) (rot te 11)) (rot te 25) = g1
      generalize hA : bits .and .u32 ie tg = y1
      generalize hA2 : bits .and .u32 te tf = y2
      generalize hA3 : bits .xor .u32 y2 y1 = y3
      generalize ((_ + y3) % 4294967296 : Int) = y4
      generalize ((_ + g1) % 4294967296 : Int) = y5
      generalize ((_ + kk) % 4294967296 : Int) = y6
      clear hI hG hA hA2 hA3
      go_wp2_with fail
      refine (rotl _ 2 (-2) _ (by decide) (by decide) (by decide)).mono ?_
      rintro r w4 ⟨rfl, rfl⟩
      go_wp2_with fail
      refine (rotl _ 13 (-13) _ (by decide) (by decide) (by decide)).mono ?_
      rintro r w4 ⟨rfl, rfl⟩
      go_wp2_with fail
      refine (rotl _ 22 (-22) _ (by decide) (by decide) (by decide)).mono ?_
      rintro r w4 ⟨rfl, rfl⟩
      go_wp2_with fail
      go_roundw
      case rel =>
        refine ⟨k + 1, _, _, _, _, _, _, _, _, by omega, by go_num, ?_, rfl, rfl, rfl, rfl, rfl, rfl, rfl, rfl, HR5.out, HB6.out⟩
        have h1 := step1_eq ⟨ta, tb, tc, td, te, tf, tg, th⟩ kk ww T1 HT1.out
        have h2 := round_a ⟨ta, tb, tc, td, te, tf, tg, th⟩ kk ww
        have h3 := round_e ⟨ta, tb, tc, td, te, tf, tg, th⟩ kk ww
        rw [← h1] at h2 h3
        refine ⟨Eq.trans ?_ HS.out.symm⟩
        rw [← h2, ← h3]
        rfl
      case measure => simp [intOf]; omega
    · have HK64 : Hid (k = 64) := by show _ = _; omega
      have HT2 : Kp (St.mk ta tb tc td te tf tg th = rnds s (sched l 48) 64) := by
        have h := HT.out
        rw [HK64.out] at h
        exact ⟨h⟩
      have hge : 64 ≤ (k : Int) := by omega
      have HTu := Lib.hid (Turn.of HB.out HBe.out)
      clear hlt hk HT HRo
      go_wp2_with fail
      clear hge
      go_loopw [135] (fun c wr => ∃ j : Nat, j ≤ 8 ∧ c = .int .i64 j ∧ Turn b (hashObj (mix s (s.add ⟨ta, tb, tc, td, te, tf, tg, th⟩) j) rest n) w wr) (fun c _ => 8 - (intOf c).toNat)
      case atStart => exact ⟨0, by omega, rfl, by rw [mix_zero]; exact HTu.out⟩
      case round =>
        obtain ⟨j, hj, rfl, htu⟩ := hrel
        have HTv := Lib.hid htu
        clear htu HTu HBe
        by_cases hlt : j < 8
        · have hidx := index68 ⟨ta, tb, tc, td, te, tf, tg, th⟩ j hlt
          have cs : wr.cell? ⟨b, j, none⟩ = some (.int .u32 (s.list.getD j 0)) := by
            rw [HTv.out.blk.cell, hash_state (by rw [mix_len _ _ _ hj]; exact hlt), mix_get _ _ _ hlt]
          have HA := Kp.mk (add_get s ⟨ta, tb, tc, td, te, tf, tg, th⟩ j hlt)
          have HJ := Lib.hid hlt
          generalize s.list.getD j 0 = y0 at *
          generalize (St.mk ta tb tc td te tf tg th).list.getD j 0 = y1 at *
          go_wp2_with fail
          clear hidx
          have j8 : (j : Int) < 8 := by omega
          go_still_tail 11, (by kernel_rfl)
          clear cs
          refine wpl_world (fun w2 => Turn b (hashObj (mix s (s.add ⟨ta, tb, tc, td, te, tf, tg, th⟩) j) rest n) w w2) HTv.out.drew ?_
          intro w2 htv2
          have HT2 := Lib.hid htv2
          have fw := htv2.blk.frozen j
          have cw : w2.cell? ⟨b, j, none⟩ = some (.int .u32 ((mix s (s.add ⟨ta, tb, tc, td, te, tf, tg, th⟩) j).getD j 0)) := by
            rw [htv2.blk.cell, hash_state (by rw [mix_len _ _ _ hj]; exact hlt)]
          clear htv2
          go_wp2_with fail
          go_roundw
          case rel =>
            refine ⟨j + 1, by omega, by go_num, ?_⟩
            refine (HT2.out.set j _).as ?_
            show Obj.cells _ 174 (0, 0) = Obj.cells _ 174 (0, 0)
            rw [hash_set (by rw [mix_len _ _ _ hj]; exact hlt), mix_set _ _ _ hlt _ HA.out.symm]
          case measure => simp [intOf]; omega
        · have HJ : Hid (j = 8) := by show _ = _; omega
          have hge : 8 ≤ (j : Int) := by omega
          clear hlt hj
          go_wp2_with fail
          go_end0
          refine ⟨rfl, ?_⟩
          have h := HTv.out
          rw [HJ.out, mix_full, HT2.out] at h
          exact h
end Go.Proofs.YtgabjmmmiogfjaaDoor

namespace Go.Proofs.YtgabjmmmiogfjaaDoor
open Go.RowKit

/-- What slice v shows lies in a block of S. -/
def Blo (S : Nat → Prop) (v : Value) : Prop := ∀ x n cap, v = .slice (some x) n cap → 0 < n → S x.block
theorem add_block (x : Addr) (n : Nat) : (x.add n).block = x.block := by unfold Addr.add; split <;> rfl
theorem Blo.cut {S : Nat → Prop} {a : Option Addr} {n i j m cap : Nat} (h : Blo S (.slice a n cap)) (hj : j ≤ n) : Blo S (sliced a i j m 1) := by
  intro x k c he h0
  unfold sliced at he
  simp only [Value.slice.injEq] at he
  obtain ⟨h1, h2, h3⟩ := he
  split at h1
  · subst h1
    exact h x n cap rfl (by omega)
  · cases a with
    | none => simp at h1
    | some y =>
      simp only [Option.map_some, Option.some.injEq] at h1
      subst h1
      rw [add_block]
      exact h y n cap rfl (by omega)
/-- v shows the bytes l, outside of block b. -/
structure HoldsX (w : World) (b : Nat) (v : Value) (l : List Int) : Prop where
  h : HoldsB w w.heap.size v l
  x : Blo (· ≠ b) v
theorem HoldsX.keep {w w' : World} {b : Nat} {v : Value} {l : List Int} (h : HoldsX w b v l) (hb : Below w.heap.size w w') : HoldsX w' b v l := ⟨(h.h.keep hb).mono hb.size, h.x⟩
theorem HoldsX.turn {w w' : World} {b : Nat} {o : Obj} {v : Value} {l : List Int} (h : HoldsX w b v l) (hb : Turn b o w w') : HoldsX w' b v l := by
  refine ⟨?_, h.x⟩
  have hx := h.x
  obtain ⟨a, cap, h1, h2, h3, h4, h5, h6, h7⟩ := h.h
  subst h1
  have hs := hb.size
  refine ⟨a, cap, rfl, h2, h3, h4, fun x hxx h0 => ⟨(h5 x hxx h0).1, by have := (h5 x hxx h0).2.2; omega, by have := (h5 x hxx h0).2.2; omega⟩, fun x i hxx hi => ?_, h7⟩
  subst hxx
  exact (World.cell?_of_block (w := w) (a := ⟨x.block, x.off + i, none⟩) (hb.other _ (h5 x rfl (by omega)).2.2 (hx x _ _ rfl (by omega)))).trans (h6 x i rfl hi)
theorem HoldsX.slice {w : World} {b : Nat} {v : Value} {l : List Int} (h : HoldsX w b v l) : ∃ a n cap, v = .slice a n cap ∧ n = l.length := h.h.slice
set_option maxRecDepth 100000 in
theorem HoldsX.front {w : World} {b : Nat} {v : Value} {l : List Int} (h : HoldsX w b v l) {k : Nat} (hk : k ≤ l.length) :
    ∃ v', (∀ w1, (Instr.sliceAt 24 v none (some (.int .i64 k)) none).run Tryd.prog w1 = .ok v' w1) ∧ HoldsX w b v' (l.take k) := by
  obtain ⟨a, n, cap, rfl, hn⟩ := h.slice
  obtain ⟨v', h1, h2⟩ := h.h.front hk
  refine ⟨v', h1, h2, ?_⟩
  have hc : n ≤ cap := by
    obtain ⟨a', cap', e, hc, _⟩ := h.h
    simp only [Value.slice.injEq] at e
    omega
  have h3 := h1 w
  rw [run_sliceAt_slice (h := Tryd.underlying24), run_slice_h (ht := Tryd.underlying24) (h0 := by omega) (h2 := by omega), elem22, size5] at h3
  simp [Result.andThen] at h3
  rw [← h3]
  exact Blo.cut h.x (by omega)
set_option maxRecDepth 100000 in
theorem HoldsX.back {w : World} {b : Nat} {v : Value} {l : List Int} (h : HoldsX w b v l) {k : Nat} (hk : k ≤ l.length) :
    ∃ v', (∀ w1, (Instr.sliceAt 24 v (some (.int .i64 k)) none none).run Tryd.prog w1 = .ok v' w1) ∧ HoldsX w b v' (l.drop k) := by
  obtain ⟨a, n, cap, rfl, hn⟩ := h.slice
  obtain ⟨v', h1, h2⟩ := h.h.back hk
  refine ⟨v', h1, h2, ?_⟩
  have h3 := h1 w
  rw [run_sliceAt_slice (h := Tryd.underlying24), run_slice_l (ht := Tryd.underlying24) (h0 := by omega) (h1 := by omega), elem22, size5] at h3
  simp [Result.andThen] at h3
  rw [← h3]
  exact Blo.cut h.x (by omega)
theorem Turn.row {b : Nat} {cs : Array Value} {t : TypeId} {fr : Nat × Nat} {w w' : World} (h : Turn b (.cells cs t fr) w w') (cs' : Array Value) : Turn b (.cells cs' t fr) w (w'.setRow b cs') :=
  ⟨h.os, h.tape, h.output, by simpa [World.setRow] using h.size, h.blk.setRow cs', fun k hk hne => by rw [setRow_other w' b k cs' hne]; exact h.other k hk hne⟩
/-- copy into a block that was there. -/
theorem wpList_copy_turn {P : Program} {w : World} {ops : Array Oper} {rest : List Oper} {o : Oper} {a : Act} {Q : Exit → Act → World → Prop} (hgd : o.guard = none) (d s : Operand) (dT sT : TypeId)
    (ho : o.op = .call { callee := .builtin .copy, args := #[d, s], argTypes := #[dT, sT] }) (elem : TypeId) (hu : P.underlying dT = some (.slice elem)) (hsz : (P.info? elem).map (·.size) = some 1)
    (dp sp : Option Addr) (dLen dCap sLen sCap : Nat) (hd : a.eval d = .slice dp dLen dCap) (hs : a.eval s = .slice sp sLen sCap)
    (g off : Nat) (cur : List Value) (t : TypeId) (w0 : World) (hT : Turn g (.cells cur.toArray t) w0 w) (cs : List Value) (hn : cs.length = Nat.min sLen dLen)
    (hpos : 0 < cs.length → dp = some ⟨g, off, none⟩ ∧ ∃ ad, sp = some ad ∧ ∀ j v, cs[j]? = some v → w.cell? (ad.add j) = some v)
    (hfit : off + cs.length ≤ cur.length) (h1 : ∀ v ∈ cs, v.oneCell' = true)
    (h : ∀ w', Hid (Turn g (.cells (splice cur off cs).toArray t) w0 w') → wpList P ops Q rest (a.put o.dst (goInt cs.length)) w') :
    wpList P ops Q (o :: rest) a w := by
  by_cases h0 : cs.length = 0
  · obtain rfl : cs = [] := List.eq_nil_of_length_eq_zero h0
    refine wpList_copy_nothing hgd d s dT sT ho elem hu hsz dp sp dLen dCap sLen sCap hd hs (by simpa using hn.symm) ?_
    exact h w (show Turn _ _ _ _ by simpa [splice] using hT)
  · obtain ⟨rfl, ad, rfl, hsrc⟩ := hpos (by omega)
    refine wpList_copy_own hgd d s dT sT ho elem hu hsz g off dLen dCap ad sLen sCap hd hs cur.toArray t hT.blk cs hn hsrc (by simpa using hfit) h1 ?_
    exact h _ (show Turn _ _ _ _ by simpa [splice] using hT.row _)
theorem splice_rest {sl rest cs : List Int} {n : Int} {off : Nat} (hs : sl.length = 8) (h : off + cs.length ≤ rest.length) : splice (hashCells sl rest n) (8 + off) (kv .u8 cs) = hashCells sl (splice rest off cs) n := by
  unfold splice hashCells
  rw [List.take_append, List.drop_append]
  have e1 : (kv .u32 sl).length = 8 := by simp [hs]
  rw [e1, List.take_of_length_le (by simp; omega), List.drop_eq_nil_of_le (by simp; omega)]
  rw [show 8 + off - 8 = off by omega, show 8 + off + (kv .u8 cs).length - 8 = off + cs.length by simp; omega]
  rw [List.take_append_of_le_length (by simp; omega), List.drop_append_of_le_length (by simp; omega)]
  simp [List.map_take, List.map_drop]
theorem splice_len {l cs : List Int} {off : Nat} (h : off + cs.length ≤ l.length) : (splice l off cs).length = l.length := length_splice l off cs h
theorem splice_bytes {l cs : List Int} {off : Nat} (h : Bytes l) (h2 : Bytes cs) : Bytes (splice l off cs) := (h.take _).append (h2.append (h.drop _))
theorem splice_take {l cs : List Int} {off : Nat} (h : off ≤ l.length) : (splice l off cs).take (off + cs.length) = l.take off ++ cs := by
  unfold splice
  rw [← List.append_assoc, List.take_append_of_le_length (by simp; omega), List.take_of_length_le (by simp; omega)]
/-- Block b is a sum under way that took l in. -/
def HashIs (w : World) (b : Nat) (l : List Int) : Prop :=
  ∃ rest, rest.length = 64 ∧ Bytes rest ∧ rest.take (l.length % 64) = l.drop (64 * (l.length / 64)) ∧ Blk w b (hashObj (absorb l (l.length / 64)).list rest l.length)
/-- Block b has become a sum under way that took l in; all else is as it was. -/
def HashTurn (b : Nat) (l : List Int) (w w' : World) : Prop :=
  ∃ rest, rest.length = 64 ∧ Bytes rest ∧ rest.take (l.length % 64) = l.drop (64 * (l.length / 64)) ∧ Turn b (hashObj (absorb l (l.length / 64)).list rest l.length) w w'
theorem HashTurn.is {b : Nat} {l : List Int} {w w' : World} (h : HashTurn b l w w') : HashIs w' b l := by
  obtain ⟨rest, h1, h2, h3, h4⟩ := h
  exact ⟨rest, h1, h2, h3, h4.blk⟩
theorem HashIs.keep {w w' : World} {b : Nat} {l : List Int} (h : HashIs w b l) (hb : Below w.heap.size w w') : HashIs w' b l := by
  obtain ⟨rest, h1, h2, h3, h4⟩ := h
  exact ⟨rest, h1, h2, h3, h4.keep hb⟩
theorem HashIs.lt {w : World} {b : Nat} {l : List Int} (h : HashIs w b l) : b < w.heap.size := by
  obtain ⟨rest, h1, h2, h3, h4⟩ := h
  exact h4.lt
set_option maxRecDepth 100000 in
theorem slice75 (b k : Nat) (h : k < 64) (w : World) : (Instr.sliceAt 159 (.pointer (some ⟨b, 8, none⟩)) (some (.int .i64 k)) none none).run Tryd.prog w = .ok (.slice (some ⟨b, 8 + k, none⟩) (64 - k) (64 - k)) w := by
  have hl : Tryd.prog.arrayLen 159 = 64 := by kernel_rfl
  have he : Tryd.prog.elem 159 = 5 := by kernel_rfl
  rw [run_sliceAt_array_l (ht := Tryd.underlying159) (h0 := by omega) (h1 := by rw [hl]; omega), hl, he, size5]
  simp only [Result.andThen, slicedAt, Int.toNat_natCast, Nat.mul_one]
  rw [if_neg (by omega)]
  have e : (⟨b, 8, none⟩ : Addr).add k = ⟨b, 8 + k, none⟩ := by unfold Addr.add; split <;> simp_all
  rw [e]
set_option maxRecDepth 100000 in
theorem slice75_all (b : Nat) (w : World) : (Instr.sliceAt 159 (.pointer (some ⟨b, 8, none⟩)) none none none).run Tryd.prog w = .ok (.slice (some ⟨b, 8, none⟩) 64 64) w := by
  have hl : Tryd.prog.arrayLen 159 = 64 := by kernel_rfl
  have he : Tryd.prog.elem 159 = 5 := by kernel_rfl
  rw [run_sliceAt_array_all (ht := Tryd.underlying159), hl, he, size5]
  rfl
end Go.Proofs.YtgabjmmmiogfjaaDoor

namespace Go.Proofs.YtgabjmmmiogfjaaDoor
open Go.RowKit

theorem new_cells : ((((((((Tryd.zeroCells174.setIfInBounds 0 (Value.int IntKind.u32 1779033703)).setIfInBounds 1 (Value.int IntKind.u32 3144134277)).setIfInBounds 2 (Value.int IntKind.u32 1013904242)).setIfInBounds
    3 (Value.int IntKind.u32 2773480762)).setIfInBounds 4 (Value.int IntKind.u32 1359893119)).setIfInBounds 5 (Value.int IntKind.u32 2600822924)).setIfInBounds 6 (Value.int IntKind.u32 528734635)).setIfInBounds 7 (Value.int IntKind.u32 1541459225)) =
    (hashCells first.list (List.replicate 64 0) 0).toArray := by kernel_rfl
theorem zeros_bytes (n : Nat) : Bytes (List.replicate n 0) := fun x hx => by
  have := List.eq_of_mem_replicate hx
  omega
set_option maxRecDepth 100000 in
set_option maxHeartbeats 400000 in
theorem new_any (w : World) : Calls Tryd.prog 108 #[] w fun r w' => r = .returned (.pointer (some ⟨w.heap.size, 0, none⟩)) ∧ HashIs w' w.heap.size [] ∧ Below w.heap.size w w' := by
  go_enter Tryd.func108, Tryd.ntmps108
  go_wp2_with fail
  go_ret
  rw [new_cells]
  exact ⟨rfl, ⟨List.replicate 64 0, by simp, zeros_bytes _, rfl, Blk.new _ _⟩, more (Below.refl _ _) _⟩
end Go.Proofs.YtgabjmmmiogfjaaDoor

namespace Go.Proofs.YtgabjmmmiogfjaaDoor
open Go.RowKit

theorem hash_set_taken {sl rest : List Int} {n : Int} (hs : sl.length = 8) (hr : rest.length = 64) (m : Int) : (hashCells sl rest n).toArray.setIfInBounds 72 (.int .i64 m) = (hashCells sl rest m).toArray := by
  simp only [hashCells, List.setIfInBounds_toArray]
  congr 1
  rw [List.set_append_right _ _ (by simp; omega), List.length_map, hs, List.set_append_right _ _ (by simp; omega), List.length_map, hr]
  rfl
theorem kv_take (l : List Int) (k : Nat) : (kv .u8 l).take k = kv .u8 (l.take k) := by simp [List.map_take]
/-- The bytes of a slice, as a copy asks for them. -/
theorem HoldsX.source {w : World} {b : Nat} {a : Option Addr} {n cap : Nat} {l : List Int} (h : HoldsX w b (.slice a n cap) l) (k : Nat) (h0 : 0 < (kv .u8 (l.take k)).length) : ∃ ad, a = some ad ∧ ∀ j u, (kv .u8 (l.take k))[j]? = some u → w.cell? (ad.add j) = some u := by
  obtain ⟨ad, h1, h2⟩ := h.h.source (by simp at h0 ⊢; omega)
  refine ⟨ad, h1, fun j u hu => h2 j u ?_⟩
  rw [← kv_take, List.getElem?_take] at hu
  split at hu
  · exact hu
  · cases hu
theorem info5' : (Tryd.prog.info? 5).map (·.size) = some 1 := by kernel_rfl
theorem kv_one (l : List Int) : ∀ u ∈ kv .u8 l, u.oneCell' = true := by
  intro u hu
  obtain ⟨x, _, rfl⟩ := List.mem_map.1 hu
  rfl
theorem part_b {l p rest : List Int} {n r : Nat} (hn : n = l.length) (hr : r = n % 64) (h3 : rest.take r = l.drop (64 * (n / 64))) (hr1 : rest.length = 64) (h : r + p.length < 64) :
    (l ++ p).length / 64 = n / 64 ∧ (splice rest r p).take ((l ++ p).length % 64) = (l ++ p).drop (64 * ((l ++ p).length / 64)) ∧ absorb (l ++ p) (n / 64) = absorb l (n / 64) := by
  subst hn
  have e1 : (l ++ p).length = l.length + p.length := by simp
  have e2 : (l.length + p.length) / 64 = l.length / 64 := by omega
  have e3 : (l.length + p.length) % 64 = r + p.length := by omega
  refine ⟨by rw [e1, e2], ?_, absorb_append _ (by omega)⟩
  rw [e1, e2, e3, splice_take (by omega), h3, List.drop_append_of_le_length (by omega)]
theorem part_c {l p rest : List Int} {n r f : Nat} (hn : n = l.length) (hr : r = n % 64) (h3 : rest.take r = l.drop (64 * (n / 64))) (hr1 : rest.length = 64) (hf : r + f = 64) (h0 : 0 < r) (h : f ≤ p.length) :
    block (absorb l (n / 64)) (splice rest r (p.take f)) = absorb (l ++ p) (n / 64 + 1) ∧ (l ++ p).drop (64 * (n / 64 + 1)) = p.drop f := by
  subst hn
  have e : 64 * (l.length / 64 + 1) = l.length + f := by omega
  constructor
  · have h1 : absorb (l ++ p) (l.length / 64 + 1) = block (absorb (l ++ p) (l.length / 64)) (((l ++ p).drop (64 * (l.length / 64))).take 64) := rfl
    rw [h1, absorb_append _ (by omega)]
    congr 1
    have h2 := splice_take (l := rest) (cs := p.take f) (off := r) (by omega)
    rw [List.length_take, Nat.min_eq_left h, hf, List.take_of_length_le (by rw [splice_len (by rw [List.length_take]; omega)]; omega), h3] at h2
    rw [h2, List.drop_append_of_le_length (by omega)]
    have e4 : (l.drop (64 * (l.length / 64))).length = r := by simp; omega
    rw [List.take_append, e4, show 64 - r = f by omega]
    congr 1
    exact (List.take_of_length_le (by rw [e4]; omega)).symm
  · rw [e, List.drop_append, List.drop_eq_nil_of_le (by omega), List.nil_append, Nat.add_sub_cancel_left]
theorem part_a {l p : List Int} {n : Nat} (hn : n = l.length) (hr : 0 = n % 64) : absorb l (n / 64) = absorb (l ++ p) (n / 64) ∧ (l ++ p).drop (64 * (n / 64)) = p := by
  subst hn
  exact ⟨(absorb_append _ (by omega)).symm, by rw [show 64 * (l.length / 64) = l.length by omega]; simp⟩
set_option maxRecDepth 100000 in
set_option maxHeartbeats 1000000 in
theorem write_any (b : Nat) (l p : List Int) (v : Value) (w : World) (hk : KonIs w) (h0 : 0 < b) (hH : HashIs w b l) (hp : HoldsX w b v p) (hlen : l.length + p.length ≤ 1000000000000000) :
    Calls Tryd.prog 109 #[.pointer (some ⟨b, 0, none⟩), v] w fun r w' => r = .returned (.tuple #[]) ∧ HashTurn b (l ++ p) w w' := by
  obtain ⟨rest, hr1, hr2, hr3, hB⟩ := hH
  obtain ⟨a, len, cap, rfl, hn⟩ := hp.slice
  obtain ⟨n, hn0⟩ : ∃ n, n = l.length := ⟨_, rfl⟩
  rw [← hn0] at hB hr3
  obtain ⟨r, hr0⟩ : ∃ r, r = n % 64 := ⟨_, rfl⟩
  rw [← hr0] at hr3
  have c72 : w.cell? ⟨b, 72, none⟩ = some (.int .i64 n) := by rw [hB.cell, hash_taken (list_len _) hr1]
  have f72 := hB.frozen 72
  have hb : n + len ≤ 1000000000000000 := by omega
  have er : (n : Int) % 64 = (r : Int) := by omega
  have r64 : r < 64 := by omega
  have HT1 : Hid (Turn b (hashObj (absorb l (n / 64)).list rest (n + len)) w (w.setCell ⟨b, 72, none⟩ (.int .i64 ((n : Int) + len)))) := by
    refine ((Turn.same hB).set 72 _).as ?_
    rw [hash_set_taken (list_len _) hr1]
  have HK := Lib.hid hk
  have HP := Lib.hid hp
  have HN := Lib.hid hn
  have HN0 := Lib.hid hn0
  have HR0 := Lib.hid hr0
  have HR1 := Lib.hid hr1
  have HR2 := Lib.hid hr2
  have HR3 := Lib.hid hr3
  have HH0 := Lib.hid h0
  clear hk hp hn hn0 hr0 hr1 hr2 hr3 hlen hB h0
  obtain ⟨f, hf⟩ : ∃ f, r + f = 64 := ⟨64 - r, by omega⟩
  obtain ⟨X, hX⟩ : ∃ X, X = p.take f := ⟨_, rfl⟩
  have HX := Lib.hid hX
  have hs := slice75 b r r64
  have hs2 := slice75_all b
  rw [show 64 - r = f by omega] at hs
  have HSl := list_len (absorb l (n / 64))
  obtain ⟨tot, htot⟩ : ∃ tot, tot = n + len := ⟨_, rfl⟩
  have HTL : Hid ((l ++ p).length = tot) := by
    have h1 := HN.out
    have h2 := HN0.out
    show _ = _
    rw [List.length_append]
    omega
  have HTot := Lib.hid htot
  have HNB : Hid (tot ≤ 1000000000000000) := by show _ ≤ _; omega
  have HF := Lib.hid hf
  rcases (show r = 0 ∨ (0 < r ∧ len < f) ∨ (0 < r ∧ f ≤ len) by omega) with hA | ⟨hB, hB2⟩ | ⟨hC, hC2⟩
  case' inl =>
    have hA0 : ¬ ((0 : Int) < (r : Int)) := by omega
    have HA : Hid (0 = n % 64) := by have := HR0.out; show _ = _; omega
    clear hs HX hX hA hf htot
    have hsl := HSl
    go_enter Tryd.func109, Tryd.ntmps109
    go_wp2_with fail
    obtain ⟨m, hm⟩ : ∃ m, m = n / 64 := ⟨_, rfl⟩
    have hp1 := (part_a (p := p) HN0.out HA.out).1
    have hp2 := (part_a (p := p) HN0.out HA.out).2
    rw [← hm] at hp1 hp2
    have HL : Hid (len + 64 * m = tot) := by have := HA.out; have := HTot.out; show _ = _; omega
    have HP0 : Hid (HoldsX w b (.slice a len cap) ((l ++ p).drop (64 * m))) := by show HoldsX _ _ _ _; rw [hp2]; exact HP.out
    refine wp_world (fun W => Turn b (hashObj (absorb (l ++ p) m).list rest tot) w W) (by
      have h := HT1.out
      rw [← hm, hp1] at h
      have e : ((tot : Nat) : Int) = (n : Int) + len := by have := HTot.out; omega
      rw [e]
      exact h) ?_
    intro W hW
    have HT0 := Lib.hid hW
    have hR1 := HR1.out
    have hR2 := HR2.out
    have HLT : Hid (len ≤ tot) := by have := HTot.out; show _ ≤ _; omega
    clear hp1 hp2 hm hW hA0 HT1 er f72 c72
    generalize rest = R at HT0 hR1 hR2
    generalize a = a0 at *
    generalize len = len0 at *
    generalize cap = cap0 at *
  case' inr.inl =>
    have hA0 : (0 : Int) < r := by omega
    have hXl : X.length = len := by rw [hX, HN.out, List.length_take]; have := HN.out; omega
    have HF2 : Hid (r + len < 64) := by show _ < _; omega
    have hF3 : (r : Int) + len < 64 := by omega
    have HC1 : Hid ((kv .u8 X).length = Nat.min len f) := by show _ = min len f; rw [List.length_map, hXl]; omega
    have HC2 : Hid (∀ W', Turn b (hashObj (absorb l (n / 64)).list rest (n + len)) w W' → 0 < (kv .u8 X).length → ∃ ad, a = some ad ∧ ∀ j v, (kv .u8 X)[j]? = some v → W'.cell? (ad.add j) = some v) := by
      intro W' hW' h1
      rw [hX] at h1 ⊢
      exact (HP.out.turn hW').source f h1
    have HC3 : Hid (8 + r + (kv .u8 X).length ≤ (hashCells (absorb l (n / 64)).list rest (n + len)).length) := by
      show _ ≤ _
      have h1 := hash_size (n := (n : Int) + len) HSl HR1.out
      simp only [List.size_toArray] at h1
      rw [h1, List.length_map, hXl]
      omega
    have HXl := Lib.hid hXl
    clear hX hf htot
    go_enter Tryd.func109, Tryd.ntmps109
    go_wp2_with (refine wpList_copy_turn rfl (.tmp 28) (.tmp 29) 24 24 rfl 5 Tryd.underlying24 info5' _ _ _ _ _ _ rfl rfl b (8 + r) (hashCells (absorb l (n / 64)).list rest (n + len)) 174 w HT1.out (kv .u8 X) HC1.out (fun h1 => ⟨rfl, HC2.out _ HT1.out h1⟩) HC3.out (kv_one _) ?_)
    intro w2 HT2
    clear hs hs2
    go_wp2_with fail
    refine bodyPost_ret (v := .tuple #[]) (results_none rfl _ _ _) rfl ?_
    have hpx : X = p := by rw [HX.out, List.take_of_length_le]; have := HN.out; have := HF2.out; have := HF.out; omega
    have hpl : p.length = len := HN.out.symm
    obtain ⟨h1, h2, h3⟩ := part_b HN0.out HR0.out HR3.out HR1.out (p := p) (by rw [hpl]; exact HF2.out)
    refine ⟨rfl, splice rest r p, ?_, splice_bytes HR2.out HP.out.h.bytes, h2, ?_⟩
    · rw [splice_len (by rw [hpl, HR1.out]; have := HF2.out; omega)]; exact HR1.out
    · have h := HT2.out
      rw [hpx, splice_rest HSl (by rw [hpl, HR1.out]; have := HF2.out; omega)] at h
      rw [h1, h3, HTL.out]
      have e : ((tot : Nat) : Int) = (n : Int) + len := by have := HTot.out; omega
      rw [e]
      exact h
  case' inr.inr =>
    have hA0 : (0 : Int) < r := by omega
    have hXl : X.length = f := by rw [hX, List.length_take]; have := HN.out; omega
    have hF3 : (r : Int) + f = 64 := by omega
    have HC1 : Hid ((kv .u8 X).length = Nat.min len f) := by show _ = min len f; rw [List.length_map, hXl]; omega
    have HC2 : Hid (∀ W', Turn b (hashObj (absorb l (n / 64)).list rest (n + len)) w W' → 0 < (kv .u8 X).length → ∃ ad, a = some ad ∧ ∀ j v, (kv .u8 X)[j]? = some v → W'.cell? (ad.add j) = some v) := by
      intro W' hW' h1
      rw [hX] at h1 ⊢
      exact (HP.out.turn hW').source f h1
    have HC3 : Hid (8 + r + (kv .u8 X).length ≤ (hashCells (absorb l (n / 64)).list rest (n + len)).length) := by
      show _ ≤ _
      have h1 := hash_size (n := (n : Int) + len) HSl HR1.out
      simp only [List.size_toArray] at h1
      rw [h1, List.length_map, hXl]
      omega
    have HXl := Lib.hid hXl
    obtain ⟨v0, hv0, hx0⟩ := HP.out.back (k := f) (by have := HN.out; omega)
    obtain ⟨a0, len0, cap0, rfl, hn0⟩ := hx0.slice
    have HX0 := Lib.hid hx0
    have HNl : Hid (len0 + f = len) := by have := HN.out; show _ = _; rw [hn0, List.length_drop]; omega
    obtain ⟨hp1, hp2⟩ := part_c HN0.out HR0.out HR3.out HR1.out HF.out hC (p := p) (by have := HN.out; omega)
    have HP1 := Kp.mk hp1
    have HP2 := Kp.mk hp2
    have HL2 : Hid (len0 + 64 * (n / 64 + 1) = tot) := by have := HR0.out; have := HTot.out; have := HNl.out; have := HF.out; show _ = _; omega
    have hl00 : len0 ≤ 1000000000000000 := by have := HNl.out; omega
    clear hX hf hx0 hn0 hp1 hp2 htot
    go_enter Tryd.func109, Tryd.ntmps109
    go_wp2_with (refine wpList_copy_turn rfl (.tmp 28) (.tmp 29) 24 24 rfl 5 Tryd.underlying24 info5' _ _ _ _ _ _ rfl rfl b (8 + r) (hashCells (absorb l (n / 64)).list rest (n + len)) 174 w HT1.out (kv .u8 X) HC1.out (fun h1 => ⟨rfl, HC2.out _ HT1.out h1⟩) HC3.out (kv_one _) ?_)
    intro w2 HT2
    clear hs
    have HXf : Hid (X.length = f) := HXl.out
    have HT3 : Hid (Turn b (hashObj (absorb l (n / 64)).list (splice rest r X) (n + len)) w w2) := by
      have h := HT2.out
      rw [splice_rest HSl (by rw [HXf.out, HR1.out]; exact Nat.le_of_eq HF.out)] at h
      exact h
    have hsl : (splice rest r X).length = 64 := by rw [splice_len (by rw [HXf.out, HR1.out]; exact Nat.le_of_eq HF.out)]; exact HR1.out
    have hsb : Bytes (splice rest r X) := splice_bytes HR2.out (by rw [HX.out]; exact HP.out.h.bytes.take _)
    have HSL := Kp.mk hsl
    have HSB := Kp.mk hsb
    have HHB : Hid (HoldsB w2 w2.heap.size (.slice (some ⟨b, 8, none⟩) 64 64) (splice rest r X)) :=
      HoldsB.ofRow2 HT3.out.blk hsl.symm (Nat.le_refl _) (by unfold maxLen; omega) (fun i hi => hash_rest HSl hi) hsb
    clear hsl hsb
    go_wp2_with fail
    refine (compress_any _ b (absorb l (n / 64)) (splice rest r X) (n + len) _ _ w2 (HK.out.turn HT3.out HH0.out) HT3.out.blk HSL.out HHB.out HSL.out).mono ?_
    rintro r3 w3 ⟨rfl, h3⟩
    have HT4 := Lib.hid (HT3.out.trans h3)
    clear h3
    go_wp2_with fail
    obtain ⟨m, hm⟩ : ∃ m, m = n / 64 + 1 := ⟨_, rfl⟩
    have hp1 := HP1.out
    have hp2 := HP2.out
    rw [← HX.out, ← hm] at hp1
    rw [← hm] at hp2
    have HL : Hid (len0 + 64 * m = tot) := by have := HL2.out; rw [← hm] at this; exact this
    have HP0 : Hid (HoldsX w b (.slice a0 len0 cap0) ((l ++ p).drop (64 * m))) := by show HoldsX _ _ _ _; rw [hp2]; exact HX0.out
    refine wp_world (fun W => Turn b (hashObj (absorb (l ++ p) m).list (splice rest r X) tot) w W) (by
      have h := HT4.out
      rw [hp1] at h
      have e : ((tot : Nat) : Int) = (n : Int) + len := by have := HTot.out; omega
      rw [e]
      exact h) ?_
    intro W hW
    have HT0 := Lib.hid hW
    have hR1 := HSL.out
    have hR2 := HSB.out
    have HLT : Hid (len0 ≤ tot) := by have := HL.out; show _ ≤ _; omega
    clear hp1 hp2 hm hW hA0 HT1 er f72 c72 hl00
    generalize splice rest r X = R at HT0 hR1 hR2
  all_goals
    have hbt : Hid (tot ≤ 1000000000000000) := by have := HTot.out; have := HLT.out; have := HNB.out; show _ ≤ _; omega
    have hl0 : len0 ≤ 1000000000000000 := by have := hbt.out; have := HLT.out; omega
    have HR1k := Lib.hid hR1
    have HR2k := Lib.hid hR2
    have hq : (len0 : Int) / 64 = ((len0 / 64 : Nat) : Int) := by omega
    obtain ⟨q, hq0⟩ : ∃ q, q = len0 / 64 := ⟨_, rfl⟩
    have hqb : q ≤ 1000000000000000 := by omega
    rw [hq, ← hq0]
    have HQ := Lib.hid hq0
    clear hq hq0 hR1 hR2
    go_loopw [1, 47] (fun s1 c wr => ∃ (i : Nat) (a1 : Option Addr) (len1 cap1 : Nat), i ≤ q ∧ c = .int .i64 i ∧ s1 = .slice a1 len1 cap1 ∧ HoldsX w b (.slice a1 len1 cap1) ((l ++ p).drop (64 * (m + i))) ∧
      Turn b (hashObj (absorb (l ++ p) (m + i)).list R tot) w wr) (fun _ c _ => q - (intOf c).toNat)
    case atStart => exact ⟨0, a0, len0, cap0, by omega, rfl, rfl, HP0.out, HT0.out⟩
    case round =>
      obtain ⟨i, a1, len1, cap1, hi, rfl, rfl, hx, ht⟩ := hrel
      have HX1 := Kp.mk hx
      have HTu := Kp.mk ht
      have hl1 : len1 + 64 * (m + i) = tot := by
        obtain ⟨a', n', cap', e1, e2⟩ := hx.slice
        simp only [Value.slice.injEq] at e1
        rw [e1.2.1, e2, List.length_drop, HTL.out]
        have := HL.out
        have := HQ.out
        omega
      have HL1 := Lib.hid hl1
      clear hx ht
      by_cases hlt : i < q
      · have h64 : 64 ≤ ((l ++ p).drop (64 * (m + i))).length := by
          rw [List.length_drop, HTL.out]
          have := HL.out
          have := HQ.out
          omega
        obtain ⟨v1, hv1, hx1⟩ := HX1.out.front h64
        obtain ⟨v2, hv2, hx2⟩ := HX1.out.back h64
        obtain ⟨a2, len2, cap2, rfl, -⟩ := hx2.slice
        have hv3 : ∀ w1, (Instr.sliceAt 24 (.slice a1 len1 cap1) none (some (.int .i64 64)) none).run Tryd.prog w1 = .ok v1 w1 := hv1
        have hv4 : ∀ w1, (Instr.sliceAt 24 (.slice a1 len1 cap1) (some (.int .i64 64)) none none).run Tryd.prog w1 = .ok (.slice a2 len2 cap2) w1 := hv2
        have HX3 := Kp.mk hx1
        have HX4 := Kp.mk hx2
        have HC6 : Kp ((((l ++ p).drop (64 * (m + i))).take 64).length = 64) := ⟨by rw [List.length_take]; omega⟩
        clear hv1 hv2 hx1 hx2 h64 hl1
        go_wp2_with fail
        refine (compress_any _ b (absorb (l ++ p) (m + i)) R tot _ _ wr (HK.out.turn HTu.out HH0.out) HTu.out.blk HR1k.out (HX3.out.turn HTu.out).h HC6.out).mono ?_
        rintro r3 w3 ⟨rfl, h3⟩
        have HT4 := Kp.mk (HTu.out.trans h3)
        clear h3
        go_wp2_with fail
        go_roundw
        case rel =>
          refine ⟨i + 1, a2, len2, cap2, by omega, by go_num, rfl, ?_, HT4.out⟩
          have h := HX4.out
          rw [List.drop_drop] at h
          exact h
        case measure => simp [intOf]; omega
      · have HI : Hid (i = q) := by show _ = _; omega
        have hge : (q : Int) ≤ i := by omega
        have hib : i ≤ 1000000000000000 := by omega
        obtain ⟨Y, hY⟩ : ∃ Y, Y = (l ++ p).drop (64 * (m + i)) := ⟨_, rfl⟩
        have HY := Kp.mk hY
        have HXY : Kp (HoldsX w b (.slice a1 len1 cap1) Y) := ⟨by rw [hY]; exact HX1.out⟩
        clear hY
        have HC1 : Hid ((kv .u8 Y).length = Nat.min len1 64) := by
          show _ = min len1 64
          rw [List.length_map, HY.out, List.length_drop, HTL.out]
          have := HL.out
          have := HQ.out
          have := HI.out
          omega
        have HC2 : Hid (∀ W', Turn b (hashObj (absorb (l ++ p) (m + i)).list R tot) w W' → 0 < (kv .u8 Y).length → ∃ ad, a1 = some ad ∧ ∀ j v, (kv .u8 Y)[j]? = some v → W'.cell? (ad.add j) = some v) :=
          fun W' hW' h1 => (HXY.out.turn hW').h.source h1
        have HC3 : Hid (8 + (kv .u8 Y).length ≤ (hashCells (absorb (l ++ p) (m + i)).list R tot).length) := by
          show _ ≤ _
          have h1 := hash_size (n := (tot : Int)) (list_len (absorb (l ++ p) (m + i))) HR1k.out
          simp only [List.size_toArray] at h1
          have h2 := HC1.out
          rw [h1, h2]
          have : Nat.min len1 64 ≤ 64 := Nat.min_le_right _ _
          omega
        clear hlt hi hl1
        go_wp2_with (refine wpList_copy_turn rfl (.tmp 59) (.tmp 60) 24 24 rfl 5 Tryd.underlying24 info5' _ _ _ _ _ _ rfl rfl b 8 (hashCells (absorb (l ++ p) (m + i)).list R tot) 174 w HTu.out (kv .u8 Y) HC1.out (fun h1 => ⟨rfl, HC2.out _ HTu.out h1⟩) HC3.out (kv_one _) ?_)
        intro w5 HT5
        go_wp2_with fail
        go_end0
        have e1 : (l ++ p).length / 64 = m + i := by rw [HTL.out]; have := HL.out; have := HQ.out; have := HI.out; omega
        have e2 : ((l ++ p).drop (64 * (m + i))).length = (l ++ p).length % 64 := by rw [List.length_drop]; omega
        have e3 : 0 + ((l ++ p).drop (64 * (m + i))).length ≤ R.length := by rw [HR1k.out, e2]; omega
        refine ⟨rfl, splice R 0 ((l ++ p).drop (64 * (m + i))), ?_, splice_bytes HR2k.out HX1.out.h.bytes, ?_, ?_⟩
        · rw [splice_len e3]; exact HR1k.out
        · rw [e1, ← e2]
          have h := splice_take (l := R) (cs := (l ++ p).drop (64 * (m + i))) (off := 0) (by omega)
          simpa using h
        · have h := HT5.out
          have h2 : Turn b (.cells (splice (hashCells (absorb (l ++ p) (m + i)).list R tot) (8 + 0) (kv .u8 Y)).toArray 174) w w5 := h
          rw [HY.out, splice_rest (off := 0) (list_len _) e3] at h2
          rw [e1, HTL.out]
          exact h2
end Go.Proofs.YtgabjmmmiogfjaaDoor

namespace Go.Proofs.YtgabjmmmiogfjaaDoor
open Go.RowKit

/-- The blocks of n bytes, of any n. -/
def blkI (n : Int) : Int := if n < 0 then 1 else if n % 64 ≤ 55 then n / 64 + 1 else n / 64 + 2
theorem blkI_nat (n : Nat) : blkI n = (blocks n : Nat) := by
  unfold blkI blocks
  rw [if_neg (by omega)]
  split <;> split <;> omega
set_option maxHeartbeats 400000 in
theorem blocks_any (n : Int) (w : World) (h2 : n ≤ 9223372036854775807) :
    Calls Tryd.prog 79 #[.int .i64 n] w fun r w' => r = .returned (.int .i64 (blkI n)) ∧ w' = w := by
  by_cases h0 : n < 0
  · have HE : Hid (blkI n = 1) := by show _ = _; unfold blkI; rw [if_pos h0]
    go_enter Tryd.func79, Tryd.ntmps79
    go_wp2_with fail
    go_ret
    exact ⟨reti HE.out.symm, rfl⟩
  · by_cases h5 : n % 64 ≤ 55
    · have HE : Hid (blkI n = n / 64 + 1) := by show _ = _; unfold blkI; rw [if_neg h0, if_pos h5]
      have t1 : decide (56 ≤ n % 64) = false := by simp; omega
      have h00 : 0 ≤ n := by omega
      clear h0 h5
      go_enter Tryd.func79, Tryd.ntmps79
      go_wp2_with fail
      go_ret
      exact ⟨reti HE.out.symm, rfl⟩
    · have HE : Hid (blkI n = n / 64 + 2) := by show _ = _; unfold blkI; rw [if_neg h0, if_neg h5]
      have t1 : decide (56 ≤ n % 64) = true := by simp; omega
      have h00 : 0 ≤ n := by omega
      clear h0 h5
      go_enter Tryd.func79, Tryd.ntmps79
      go_wp2_with fail
      go_ret
      exact ⟨reti HE.out.symm, rfl⟩
end Go.Proofs.YtgabjmmmiogfjaaDoor

namespace Go.Proofs.YtgabjmmmiogfjaaDoor
open Go.RowKit

/-- The bytes behind a text of n bytes, but for the last of the length's. -/
def tl (n k : Nat) : List Int := [128] ++ List.replicate (zeros n) 0 ++ (be64 (8 * (n : Int) % 18446744073709551616)).take k
theorem be64_len (n : Int) : (be64 n).length = 8 := by simp [be64]
theorem tl_len (n k : Nat) (h : k ≤ 8) : (tl n k).length = zeros n + 1 + k := by simp [tl, be64_len]; omega
theorem tl_full (n : Nat) : tl n 8 = tail n := by unfold tl tail; rw [List.take_of_length_le (by rw [be64_len]; omega)]
theorem be64_get (n : Int) (j : Nat) (h : j < 8) : (be64 n).getD j 0 = n / 2 ^ (56 - 8 * j) % 256 := by
  match j, h with
  | 0, _ => rfl
  | 1, _ => rfl
  | 2, _ => rfl
  | 3, _ => rfl
  | 4, _ => rfl
  | 5, _ => rfl
  | 6, _ => rfl
  | 7, _ => rfl
theorem tl_succ (n k : Nat) (h : k < 8) : tl n (k + 1) = tl n k ++ [(8 * (n : Int) % 18446744073709551616) / 2 ^ (56 - 8 * k) % 256] := by
  unfold tl
  rw [← be64_get _ k h, List.take_succ_eq_append_getElem (by rw [be64_len]; exact h), List.append_assoc, List.getD_eq_getElem?_getD, List.getElem?_eq_getElem (by rw [be64_len]; exact h)]
  simp
theorem tl_bytes (n k : Nat) : Bytes (tl n k) := by
  intro x hx
  unfold tl at hx
  rcases List.mem_append.1 hx with hx | hx
  · rcases List.mem_append.1 hx with hx | hx
    · simp at hx; omega
    · have := List.eq_of_mem_replicate hx; omega
  · have := List.mem_of_mem_take hx
    unfold be64 at this
    obtain ⟨i, _, rfl⟩ := List.mem_map.1 this
    omega
theorem tl_zero (n : Nat) : fill 128 (tl n 0) = (fill 128 []).set 0 128 := by
  have hz : zeros n ≤ 63 := by unfold zeros; omega
  unfold fill tl
  simp only [List.take_zero, List.append_nil, List.length_append, List.length_cons, List.length_nil, List.length_replicate, List.nil_append, Nat.sub_zero]
  rw [List.append_assoc, List.replicate_append_replicate, show zeros n + (128 - (0 + 1 + zeros n)) = 127 by omega]
  rfl
theorem zeros_blocks (n : Nat) : 64 * blocks n = n + zeros n + 9 := by
  unfold blocks zeros
  split <;> omega
set_option maxRecDepth 100000 in
theorem slice99 (t k : Nat) (h : k ≤ 128) (w : World) : (Instr.sliceAt 179 (.pointer (some ⟨t, 0, none⟩)) none (some (.int .i64 k)) none).run Tryd.prog w = .ok (.slice (some ⟨t, 0, none⟩) k 128) w := by
  have hl : Tryd.prog.arrayLen 179 = 128 := by kernel_rfl
  have he : Tryd.prog.elem 179 = 5 := by kernel_rfl
  rw [run_sliceAt_array_h (ht := Tryd.underlying179) (h0 := by omega) (h2 := by rw [hl]; omega), hl, he, size5]
  simp only [Result.andThen, slicedAt, Int.toNat_natCast, Nat.mul_one]
  rw [if_neg (by omega)]
  have e : (⟨t, 0, none⟩ : Addr).add 0 = ⟨t, 0, none⟩ := by unfold Addr.add; split <;> simp_all
  rw [e]
  rfl
set_option maxRecDepth 100000 in
set_option maxHeartbeats 1000000 in
theorem end_any (b : Nat) (l : List Int) (w : World) (hk : KonIs w) (h0 : 0 < b) (hH : HashIs w b l) (hlen : l.length ≤ 999999999999000) :
    Calls Tryd.prog 116 #[.pointer (some ⟨b, 0, none⟩)] w fun r w' => r = .returned (.tuple #[]) ∧ HashTurn b (pad l) w w' := by
  have hH' := hH
  obtain ⟨rest, hr1, hr2, hr3, hB⟩ := hH'
  obtain ⟨n, hn0⟩ : ∃ n, n = l.length := ⟨_, rfl⟩
  rw [← hn0] at hB hr3 hlen
  have c72 : w.cell? ⟨b, 72, none⟩ = some (.int .i64 n) := by rw [hB.cell, hash_taken (list_len _) hr1]
  obtain ⟨B, hBl⟩ : ∃ B, B = blocks n := ⟨_, rfl⟩
  obtain ⟨z, hz⟩ : ∃ z, z = zeros n := ⟨_, rfl⟩
  have hbz := zeros_blocks n
  rw [← hBl, ← hz] at hbz
  have hz63 : z ≤ 63 := by rw [hz]; unfold zeros; omega
  have ebl := blkI_nat n
  rw [← hBl] at ebl
  have HEB := Lib.hid ebl
  have HK := Lib.hid hk
  have HH := Lib.hid hH
  have HN0 := Lib.hid hn0
  have HH0 := Lib.hid h0
  have HBZ := Lib.hid hbz
  have HZ := Lib.hid hz
  have HLt : Hid (b < w.heap.size) := hB.lt
  have bB : (B : Int) ≤ 1000000000000000 := by omega
  have bn : n ≤ 999999999999000 := hlen
  have hsz : 64 * (B : Int) - n = (z : Int) + 9 := by omega
  have HSZ := Lib.hid hsz
  clear hk hH hn0 h0 hB hr1 hr2 hr3 hBl hz hbz ebl hlen hsz
  have CB : Kp (∀ w, Calls Tryd.prog 79 #[.int .i64 n] w fun r w' => r = .returned (.int .i64 B) ∧ w' = w) := ⟨fun w => by have := blocks_any n w (by omega); rw [HEB.out] at this; exact this⟩
  have h8n : 8 * (n : Int) % 18446744073709551616 = (n : Int) * 8 := by omega
  have H8 := Kp.mk h8n
  clear h8n
  go_enter Tryd.func116, Tryd.ntmps116
  go_wp2_with fail
  refine wp_world (fun W => Row W w.heap.size 179 .u8 (fill 128 []) ∧ Below w.heap.size w W) ⟨Blk.newAt _ rfl, more (Below.refl _ _) _⟩ ?_
  rintro w2 ⟨hr, hb⟩
  have c72' : w2.cell? ⟨b, 72, none⟩ = some (.int .i64 n) := (World.cell?_of_block (w := w) (a := ⟨b, 72, none⟩) (hb.block b HLt.out)).trans c72
  have HR := Kp.mk hr
  have HB := Kp.mk hb
  clear hr hb c72
  go_quiet ((go_at_call 79; exact Calls.quiet_of_same (CB.out _)))
  have HR2 := Kp.mk (HR.out.drewN nq)
  have HB2 := Kp.mk (below_drewN HB.out nq)
  clear c72' HR HB
  generalize w2.drewN nq = w3 at *
  have cw := HR2.out.cell (i := 0) (by rw [fill_len (by simp)]; omega)
  have fw := HR2.out.frozen 0
  go_wp2_with fail
  have hsz : (B : Int) * 64 - n = (z : Int) + 9 := by have := HSZ.out; omega
  rw [hsz]
  clear hsz cw fw
  generalize hE : (n : Int) * 8 = E
  have e0 : 0 ≤ E := by omega
  have e1 : E ≤ 9000000000000000 := by omega
  have HE := Kp.mk hE
  clear hE
  refine wp_world (fun W => Row W w.heap.size 179 .u8 (fill 128 (tl n 0)) ∧ Below w.heap.size w W) ⟨by rw [tl_zero]; exact HR2.out.set 0 128, HB2.out.setCell (by simp) _⟩ ?_
  rintro w4 ⟨hr, hb⟩
  have HR3 := Kp.mk hr
  have HB3 := Kp.mk hb
  clear hr hb HR2 HB2
  go_loopw [24] (fun c wr => ∃ j : Nat, j ≤ 8 ∧ c = .int .i64 j ∧ Row wr w.heap.size 179 .u8 (fill 128 (tl n j)) ∧ Below w.heap.size w wr) (fun c _ => 8 - (intOf c).toNat)
  case atStart => exact ⟨0, by omega, rfl, HR3.out, HB3.out⟩
  case round =>
    obtain ⟨j, hj, rfl, hr, hb⟩ := hrel
    have HR4 := Kp.mk hr
    have HB4 := Kp.mk hb
    clear hr hb HR3 HB3
    by_cases hlt : j < 8
    · have hpl := tl_len n j hj
      rw [← HZ.out] at hpl
      have HPL := Kp.mk hpl
      have cw := HR4.out.cell (i := z + 1 + j) (by rw [fill_len (by omega)]; omega)
      have fw := HR4.out.frozen (z + 1 + j)
      clear hpl
      go_wp2_with fail
      refine ⟨⟨j + 1, by omega, by go_num, ?_, HB4.out.setCell (by simp) _⟩, by simp [intOf]; omega⟩
      refine (HR4.out.set (z + 1 + j) _).as ?_
      rw [tl_succ n j hlt, ← fill_set (by rw [HPL.out]; omega), HPL.out, H8.out, HE.out]
    · have HJ : Kp (j = 8) := ⟨by omega⟩
      have hge : 8 ≤ (j : Int) := by omega
      have hs := slice99 w.heap.size (z + 9) (by omega)
      rw [show ((z + 9 : Nat) : Int) = (z : Int) + 9 by omega] at hs
      have hl : (tl n 8).length = z + 9 := by rw [tl_len n 8 (by omega), HZ.out]
      have HHX : Kp (HoldsX wr b (.slice (some ⟨w.heap.size, 0, none⟩) (z + 9) 128) (tl n 8)) := by
        have hr := HR4.out
        rw [HJ.out] at hr
        refine ⟨(HoldsB.ofRow2 (off := 0) hr hl.symm (by omega) (by unfold maxLen; omega) (fun i hi => ?_) (tl_bytes n 8)), ?_⟩
        · simp only [Nat.zero_add, List.getElem?_toArray, List.getElem?_map]
          have h1 := fill_get (n := 128) hi
          have h2 : i < (fill 128 (tl n 8)).length := by rw [fill_len (by omega)]; omega
          rw [List.getD_eq_getElem?_getD, List.getElem?_eq_getElem h2] at h1
          rw [List.getElem?_eq_getElem h2, ← h1]
          rfl
        · intro x k c he _
          simp only [Value.slice.injEq, Option.some.injEq] at he
          rw [← he.1]
          have := HLt.out
          show w.heap.size ≠ b
          omega
      have HL := Kp.mk hl
      clear hlt hj hl
      go_wp2_with fail
      refine (write_any b l (tl n 8) _ wr (HK.out.keep HB4.out) HH0.out (HH.out.keep HB4.out) HHX.out (by rw [HL.out, ← HN0.out]; omega)).mono ?_
      rintro r w5 ⟨rfl, h5⟩
      have H5 := Kp.mk h5
      clear h5
      go_wp2_with fail
      go_end0
      obtain ⟨rest', q1, q2, q3, q4⟩ := H5.out
      have e : l ++ tl n 8 = pad l := by unfold pad; rw [tl_full, HN0.out]
      rw [e] at q3 q4
      exact ⟨rfl, rest', q1, q2, q3, Turn.ahead HB4.out q4⟩
end Go.Proofs.YtgabjmmmiogfjaaDoor
