/-
  ots.along.
  A new array of 68 bytes.
  ots.whole.
  The middle of a row.
  The digits of a message: plain arithmetic.
  ots.Digits.
  What all chains lead to: plain lists.
  The document's Press.
-/
import Derived.Test.YtpljjmdkagbjpaaDoorOd07
import Derived.Great.Walk
import Derived.Deep.MidRow
import Derived.Laws.CopyOwn
namespace Go.Proofs.YtpljjmdkagbjpaaDoor
open Go.RowKit

/-- The link behind k steps from f on. -/
def runS (d x c f : Int) (z : List Int) : Nat → List Int
  | 0 => z
  | k + 1 => shortL (linkT d x c (f + k) (runS d x c f z k))
theorem runS_len (d x c f : Int) {z : List Int} (h : z.length = 16) (k : Nat) : (runS d x c f z k).length = 16 := by
  cases k with
  | zero => exact h
  | succ k => exact shortL_len _
theorem runS_bytes (d x c f : Int) {z : List Int} (h : Bytes z) (k : Nat) : Bytes (runS d x c f z k) := by
  cases k with
  | zero => exact h
  | succ k => exact shortL_bytes _
set_option maxRecDepth 100000 in
set_option maxHeartbeats 2000000 in
theorem along_any (d x c : Int) (f t : Nat) (z : List Int) (w : World) (hk : KonIs w) (hx : 0 ≤ x ∧ x < 4294967296) (ht : f ≤ t ∧ t ≤ 1000000) (hz : z.length = 16) (hzb : Bytes z) :
    Calls Tryd.prog 47 #[nameV d x, .int .i64 c, .int .i64 f, .int .i64 t, dgV z] w fun q w' => q = .returned (dgV (runS d x c f z (t - f))) ∧ Below w.heap.size w w' := by
  have HK := Kp.mk hk
  have HX := Kp.mk hx
  have HZ := Kp.mk hz
  have HZB := Kp.mk hzb
  obtain ⟨q0, hq⟩ : ∃ q, q = runS d x c f z (t - f) := ⟨_, rfl⟩
  rw [← hq]
  have HQ := Kp.mk hq
  have HQl : Kp (q0.length = 16) := ⟨by rw [hq]; exact runS_len d x c f hz _⟩
  obtain ⟨m, hm⟩ : ∃ m, m = t - f := ⟨_, rfl⟩
  have hsub : (t : Int) - f = (m : Int) := by omega
  have HMM : Kp (m = t - f ∧ f + m ≤ 1000000) := ⟨⟨hm, by omega⟩⟩
  have hmm : m ≤ 1000000 := by omega
  clear hk hx hz hzb hq hm ht
  go_enter Tryd.func47, Tryd.ntmps47
  go_wp2_with fail
  obtain ⟨A, hA⟩ : ∃ A, A = w.heap.size := ⟨_, rfl⟩
  have HA := Kp.mk hA
  rw [← hA]
  refine wp_world (fun W => Blk W A (.cells #[.int .i64 d, .int .u32 x] 29) ∧ Row W (A + 1) 27 .u8 z ∧ Row W (A + 2) 27 .u8 (fill 16 []) ∧ Below A w W) ⟨?_, ?_, ?_, ?_⟩ ?_
  · exact Blk.old (Blk.old (Blk.newAt _ hA) _) _
  · exact Blk.old (Blk.newAt _ (by simp [hA])) _
  · exact Blk.newAt _ (by simp [hA])
  · rw [hA]; exact more (more (more (Below.refl _ _) _) _) _
  rw [show A + 1 + 1 = A + 2 from rfl]
  clear hA hsub
  rintro W ⟨h1, h2, h3, h4⟩
  have G1 := Kp.mk h1
  have G2 := Kp.mk h2
  have G3 := Kp.mk h3
  have G4 := Kp.mk h4
  clear h1 h2 h3 h4
  go_loopw [15] (fun c9 wr => ∃ k : Nat, k ≤ m ∧ c9 = .int .i64 k ∧ Kp (Blk wr A (.cells #[.int .i64 d, .int .u32 x] 29)) ∧ Kp (Row wr (A + 1) 27 .u8 (runS d x c f z k)) ∧ Kp (Row wr (A + 2) 27 .u8 (fill 16 [])) ∧ Kp (Below A w wr)) (fun c _ => m - (intOf c).toNat)
  case atStart => exact ⟨0, by omega, rfl, G1, G2, G3, G4⟩
  case round =>
    obtain ⟨k, hk, rfl, F1, F2, F3, F4⟩ := hrel
    clear G1 G2 G3 G4
    have HSl := Kp.mk (runS_len d x c f HZ.out k)
    have HSb := Kp.mk (runS_bytes d x c f HZB.out k)
    have HC := Kp.mk (cells50 HSl.out)
    by_cases hlt : k < m
    · have HST := Kp.mk (show runS d x c f z (k + 1) = shortL (linkT d x c (f + k) (runS d x c f z k)) from rfl)
      generalize runS d x c f z k = y at *
      have hlt' : (k : Int) < (m : Int) := by omega
      have hfb : f + k ≤ 1000000 := by have := HMM.out; omega
      have e1 : IntKind.i64.wrap ((f : Int) + k) = (f : Int) + k := by
        simp only [IntKind.wrap, IntKind.bits, IntKind.signed]
        simp
        omega
      go_wp2_with (first
        | (refine wpList_load_row rfl 29 (.tmp 5) rfl A rfl 29 _ (0, 0) _ F1.out Tryd.underlying29 rfl (cellsN29 d x) ?_)
        | (refine wpList_load_row rfl 27 (.tmp 9) rfl (A + 1) rfl 27 (kv .u8 y).toArray (0, 0) _ F2.out Tryd.underlying27 rfl HC.out ?_))
      clear e1
      refine (link_any d x c (f + k) y wr (HK.out.keep (by rw [← HA.out]; exact F4.out)) HX.out HSl.out HSb.out).mono ?_
      rintro q w1 ⟨rfl, hb⟩
      have E1 := Kp.mk (F1.out.keep hb)
      have E2 := Kp.mk (F2.out.keep hb)
      have E3 := Kp.mk (F3.out.keep hb)
      have E4 : Kp (Below A w w1) := ⟨F4.out.trans (hb.mono (Nat.le_of_lt F1.out.lt))⟩
      rw [← HST.out]
      have HNl : Kp ((runS d x c f z (k + 1)).length = 16) := ⟨runS_len d x c f HZ.out _⟩
      clear hb F1 F2 F3 F4
      obtain ⟨u, hu⟩ : ∃ u, u = runS d x c f z (k + 1) := ⟨_, rfl⟩
      rw [← hu] at HNl ⊢
      have HU := Kp.mk hu
      clear hu HST
      go_wp2_with (refine wpList_store_row rfl 27 (.tmp 9) (.tmp 24) rfl (A + 1) (kv .u8 u).toArray rfl rfl 27 _ E2.out (cells50 HNl.out) (by rw [kv_size, kv_size, HSl.out, HNl.out]) (kv_all _ _) ?_)
      refine ⟨⟨k + 1, by omega, by go_num, ⟨(setRow_other _ (A + 1) A _ (by omega)).trans E1.out⟩, ⟨by rw [← HU.out]; exact E2.out.setRow u⟩, ⟨Row.otherRow E3.out (by omega) _⟩, ⟨Below.row E4.out (by omega) _⟩⟩, by simp [intOf]; omega⟩
    · obtain rfl : k = m := by omega
      have hge : ¬ (k : Int) < (k : Int) := by omega
      have K2 : Kp (Row wr (A + 1) 27 .u8 q0) := ⟨by rw [HQ.out, ← HMM.out.1]; exact F2.out⟩
      have HCq := Kp.mk (cells50 HQl.out)
      have KR := Kp.mk (F3.out.setRow q0)
      have KB := Kp.mk (Below.row F4.out (g := A + 2) (by omega) (kv .u8 q0).toArray)
      clear F1 F2
      go_wp2_with (first
        | (refine wpList_load_row rfl 27 (.tmp 9) rfl (A + 1) rfl 27 (kv .u8 q0).toArray (0, 0) _ K2.out Tryd.underlying27 rfl HCq.out ?_)
        | (refine wpList_store_row rfl 27 (.tmp 10) (.tmp 26) rfl (A + 2) (kv .u8 q0).toArray rfl rfl 27 _ F3.out HCq.out (size50 HQl.out) (kv_all _ _) ?_))
      refine bodyPost_ret (v := dgV q0) ?_ rfl ⟨rfl, by rw [← HA.out]; exact KB.out⟩
      exact results_cell_row rfl _ _ (A + 2) 27 _ (0, 0) _ rfl KR.out Tryd.underlying27 rfl HCq.out
end Go.Proofs.YtpljjmdkagbjpaaDoor

namespace Go.Proofs.YtpljjmdkagbjpaaDoor
open Go.RowKit

theorem alloc_row {P : Program} {t : TypeId} {cs : Array Value} {n : Nat} (hi : (P.info? t).map (fun i => (i.zero, i.size)) = some (some (.agg cs), n)) (old : Value) (w : World) :
    (Instr.alloc t true old).run P w = .ok (.pointer (some ⟨w.heap.size, 0, none⟩)) (w.alloc (.cells cs t)) := by
  cases hq : P.info? t with
  | none => simp [hq] at hi
  | some i =>
    have hz : i.zero = some (.agg cs) := by simp [hq] at hi; exact hi.1
    unfold Instr.alloc
    simp [zeroValue, typeInfo, hq, hz, newVar, newRow, Value.cells]
theorem wpList_alloc_row {P : Program} {ops : Array Oper} {rest : List Oper} {o : Oper} {a : Act} {w : World} {Q : Exit → Act → World → Prop} (hg : o.guard = none) (t : TypeId) (ho : o.op = .alloc t)
    (cs : Array Value) (n : Nat) (hi : (P.info? t).map (fun i => (i.zero, i.size)) = some (some (.agg cs), n))
    (h : wpList P ops Q rest (a.put o.dst (.pointer (some ⟨w.heap.size, 0, none⟩))) (w.alloc (.cells cs t))) : wpList P ops Q (o :: rest) a w := by
  refine Go.Great.wpList_allocTo hg o.dst rfl _ _ ?_ h
  unfold execOp
  simp only [ho, Sem.run_bind, alloc_row hi, Result.andThen_ok, Sem.run_pure]
theorem box_row {t : TypeId} {cs : List Value} (h1 : (Tryd.prog.info? t).map (·.size) = some cs.toArray.size) (w : World) : (Instr.box t (.agg cs.toArray)).run Tryd.prog w = .ok (.pointer (some ⟨w.heap.size, 0, none⟩)) (w.alloc (.cells cs.toArray t)) := by
  cases hq : Tryd.prog.info? t with
  | none => simp [hq] at h1
  | some i =>
    have hi : i.size = cs.toArray.size := by simpa [hq] using h1
    simp [Instr.box, newVar, sizeOf, typeInfo, hq, hi, Value.cells, newRow]
theorem wpList_box_eq {P : Program} {w : World} {ops : Array Oper} {rest : List Oper} {o : Oper} {a : Act} {Q : Exit → Act → World → Prop} (hg : o.guard = none) (t : TypeId) (x : Operand) (ho : o.op = .box t x)
    (u : Value) (hx : a.eval x = u) (v : Value) (w' : World) (hrun : (Instr.box t u).run P w = .ok v w') (h : wpList P ops Q rest (a.put o.dst v) w') : wpList P ops Q (o :: rest) a w := by
  subst hx
  refine wpList_plain hg fun _ hK => ?_
  unfold Oper.wp execOp
  simp only [ho, Sem.run_bind, hrun, Result.andThen_ok]
  exact hK _ _ h
theorem info33 : (Tryd.prog.info? 51).map (fun i => (i.zero, i.size)) = some (some (.agg (kv .u8 (List.replicate 68 0)).toArray), 68) := by kernel_rfl
end Go.Proofs.YtpljjmdkagbjpaaDoor

namespace Go.Proofs.YtpljjmdkagbjpaaDoor
open Go.RowKit

/-- What is summed for the public part. -/
def wholeT (d x : Int) (S : List Int) : List Int := 80 :: (headL d x ++ S)
theorem wholeT_flat (d x : Int) (S : List Int) : 80 :: [headL d x, S].flatten = wholeT d x S := by simp [wholeT]
theorem holdsP_two {w : World} {v1 v2 : Value} {l1 l2 : List Int} (h1 : HoldsB w w.heap.size v1 l1) (h2 : HoldsB w w.heap.size v2 l2) :
    HoldsP (w.alloc (.cells #[v1, v2] 32)) (.slice (some ⟨w.heap.size, 0, none⟩) 2 2) [l1, l2] := by
  have hB := Blk.new w (.cells #[v1, v2] 32)
  have hm : ∀ v l, HoldsB w w.heap.size v l → HoldsB (w.alloc (.cells #[v1, v2] 32)) (w.alloc (.cells #[v1, v2] 32)).heap.size v l := fun v l h => (h.alloc _).mono (by simp)
  refine ⟨_, 2, rfl, by unfold maxLen; simp, fun i hi => ?_⟩
  match i, hi with
  | 0, _ =>
    obtain ⟨a, n, c, rfl, _⟩ := h1.slice
    exact ⟨w.heap.size, 0, a, n, c, rfl, by simp, hB.cell 0, hm _ _ h1⟩
  | 1, _ =>
    obtain ⟨a, n, c, rfl, _⟩ := h2.slice
    exact ⟨w.heap.size, 0, a, n, c, rfl, by simp, hB.cell 1, hm _ _ h2⟩
  | i + 2, hi => exact absurd hi (by simp)
theorem info41 : (Tryd.prog.info? 41).map (·.size) = some 1088 := by kernel_rfl
theorem info43 : (Tryd.prog.info? 43).map (·.size) = some 1088 := by kernel_rfl
theorem cells41 {S : List Int} (h : S.length = 1088) : (Tryd.prog.info? 41).map (·.size) = some (kv .u8 S).toArray.size := by rw [kv_size, h]; exact info41
theorem cells43 {S : List Int} (h : S.length = 1088) : (Tryd.prog.info? 43).map (·.size) = some (kv .u8 S).toArray.size := by rw [kv_size, h]; exact info43
/-- Link c. -/
def linkAt (S : List Int) (c : Nat) : List Int := (S.drop (c * 16)).take 16
theorem linkAt_len {S : List Int} (h : S.length = 1088) {c : Nat} (hc : c < 68) : (linkAt S c).length = 16 := by
  unfold linkAt
  rw [List.length_take, List.length_drop]
  omega
theorem linkAt_bytes {S : List Int} (h : Bytes S) (c : Nat) : Bytes (linkAt S c) := (h.drop _).take _
theorem take_link (S : List Int) (k : Nat) : bv (S.take (k * 16)) ++ bv (linkAt S k) = bv (S.take ((k + 1) * 16)) := by
  unfold linkAt
  rw [← List.map_append, show (k + 1) * 16 = k * 16 + 16 by omega, List.take_add]
/-- A link where it stands. -/
theorem link_holds {w : World} {b : Nat} {t : TypeId} {S : List Int} (h : Row w b t .u8 S) (hl : S.length = 1088) (hb : Bytes S) {c : Nat} (hc : c < 68) : HoldsB w w.heap.size (.slice (some ⟨b, c * 16, none⟩) 16 16) (linkAt S c) := by
  refine ⟨_, 16, by rw [linkAt_len hl hc], by rw [linkAt_len hl hc]; exact Nat.le_refl _, by unfold maxLen; omega, (fun e => by cases e), (fun y hy _ => by cases hy; exact ⟨rfl, h.lt, h.lt⟩), (fun y i hy hi => ?_), linkAt_bytes hb c⟩
  cases hy
  rw [linkAt_len hl hc] at hi
  rw [h.cell (i := c * 16 + i) (by omega)]
  unfold linkAt
  rw [List.getD_eq_getElem?_getD, List.getD_eq_getElem?_getD, List.getElem?_take, if_pos hi, List.getElem?_drop]
set_option maxRecDepth 100000 in
theorem slice27_mid (b off : Nat) (w : World) : (Instr.sliceAt 27 (.pointer (some ⟨b, off, none⟩)) none none none).run Tryd.prog w = .ok (.slice (some ⟨b, off, none⟩) 16 16) w := by
  have hl : Tryd.prog.arrayLen 27 = 16 := by kernel_rfl
  have he : Tryd.prog.elem 27 = 5 := by kernel_rfl
  rw [run_sliceAt_array_all (ht := Tryd.underlying27), hl, he, size5]
  rfl
set_option maxRecDepth 100000 in
set_option maxHeartbeats 2000000 in
theorem whole_any (d x : Int) (S : List Int) (w : World) (hk : KonIs w) (hx : 0 ≤ x ∧ x < 4294967296) (hS : S.length = 1088) (hSb : Bytes S) :
    Calls Tryd.prog 49 #[nameV d x, .agg (kv .u8 S).toArray] w fun q w' => q = .returned (dgV (shortL (wholeT d x S))) ∧ Below w.heap.size w w' := by
  have HK := Kp.mk hk
  have HX := Kp.mk hx
  have HS := Kp.mk hS
  have HSB := Kp.mk hSb
  have hC := fun (w : World) => box_row (t := 41) (cs := kv .u8 S) (cells41 hS) w
  obtain ⟨q0, hq⟩ : ∃ q, q = shortL (wholeT d x S) := ⟨_, rfl⟩
  rw [← hq]
  have HQ := Kp.mk hq
  have HQl : Kp (q0.length = 16) := ⟨by rw [hq]; exact shortL_len _⟩
  clear hk hx hS hSb hq
  go_enter Tryd.func49, Tryd.ntmps49
  go_wp2_with (refine wpList_box_eq rfl 41 (.tmp 1) rfl _ rfl _ _ (hC _) ?_)
  obtain ⟨A, hA⟩ : ∃ A, A = w.heap.size := ⟨_, rfl⟩
  have HA := Kp.mk hA
  rw [← hA]
  refine wp_world (fun W => Blk W A (.cells #[.int .i64 d, .int .u32 x] 29) ∧ Row W (A + 1) 41 .u8 S ∧ Row W (A + 2) 27 .u8 (fill 16 []) ∧ Below A w W) ⟨?_, ?_, ?_, ?_⟩ ?_
  · exact Blk.old (Blk.old (Blk.newAt _ hA) _) _
  · exact Blk.old (Blk.newAt _ (by simp [hA])) _
  · exact Blk.newAt _ (by simp [hA])
  · rw [hA]; exact more (more (more (Below.refl _ _) _) _) _
  rw [show A + 1 + 1 = A + 2 from rfl]
  clear hA hC
  rintro W ⟨h1, h2, h3, h4⟩
  have G1 := Kp.mk h1
  have G2 := Kp.mk h2
  have G3 := Kp.mk h3
  have G4 := Kp.mk h4
  clear h1 h2 h3 h4
  go_loopw [5, 7] (fun v5 c7 wr => ∃ k : Nat, k ≤ 68 ∧ c7 = .int .i64 k ∧ Kp (wr.ownsRow (A + 3) 5 1 v5 (S.take (k * 16)).length (bv (S.take (k * 16)))) ∧ Kp (Blk wr A (.cells #[.int .i64 d, .int .u32 x] 29)) ∧ Kp (Row wr (A + 1) 41 .u8 S) ∧ Kp (Row wr (A + 2) 27 .u8 (fill 16 [])) ∧ Kp (Below A w wr)) (fun _ c _ => 68 - (intOf c).toNat)
  case atStart => exact ⟨0, by omega, rfl, ⟨by simpa using World.ownsRow_nil W (A + 3) 5 1⟩, G1, G2, G3, G4⟩
  case round =>
    obtain ⟨k, hk, rfl, F0, F1, F2, F3, F4⟩ := hrel
    clear G1 G2 G3 G4
    by_cases hlt : k < 68
    · have hlt' : (k : Int) < 68 := by omega
      have HL := Kp.mk (link_holds F2.out HS.out HSB.out hlt)
      have HT := Kp.mk (take_link S k)
      have HTl : Kp ((S.take (k * 16)).length ≤ 2000) := ⟨by rw [List.length_take, HS.out]; omega⟩
      have HLl := Kp.mk (linkAt_len HS.out hlt)
      have HN : Kp ((S.take (k * 16)).length + (linkAt S k).length = (S.take ((k + 1) * 16)).length) := ⟨by rw [List.length_take, List.length_take, HLl.out, HS.out]; omega⟩
      generalize S.take (k * 16) = pk at F0 HT HTl HN
      have hs := slice27_mid (A + 1) (k * 16)
      have hsz : A + 3 ≤ wr.heap.size := by have := F3.out.lt; omega
      go_wp2_with (at_builtin; refine wpList_append_holds rfl _ _ rfl (A + 3) _ _ _ rfl F0.out wr.heap.size _ (linkAt S k) rfl HL.out ?c0 ?c1 ?_)
      case c0 => have := HTl.out; have := HLl.out; omega
      case c1 => exact hsz
      intro v' w' ho hg
      have HO : Kp (w'.ownsRow (A + 3) 5 1 v' (S.take ((k + 1) * 16)).length (bv (S.take ((k + 1) * 16)))) := ⟨by rw [← HT.out, ← HN.out]; exact ho⟩
      have hB3 : Below (A + 3) wr w' := (Below.refl _ wr).grown hg hsz (fun j hj => (F0.out.lt j hj).1)
      have E1 : Kp (Blk w' A (.cells #[.int .i64 d, .int .u32 x] 29)) := ⟨F1.out.upto hB3 (by omega)⟩
      have E2 := Kp.mk (F2.out.upto hB3 (by omega))
      have E3 := Kp.mk (F3.out.upto hB3 (by omega))
      have E4 : Kp (Below A w w') := ⟨F4.out.trans (hB3.mono (by omega))⟩
      clear ho hg hB3 F0 F1 F2 F3 F4 hs
      go_wp2_with fail
      exact ⟨⟨k + 1, by omega, by go_num, HO, E1, E2, E3, E4⟩, by simp [intOf]; omega⟩
    · obtain rfl : k = 68 := by omega
      have hge : ¬ ((68 : Nat) : Int) < 68 := by omega
      have HB : Kp (HoldsB wr wr.heap.size u5 S) := ⟨by
        have h := F0.out
        rw [List.take_of_length_le (by rw [HS.out]; omega)] at h
        exact HoldsB.ofRow HSB.out h⟩
      clear F0
      go_wp2_with (refine wpList_load_row rfl 29 (.tmp 2) rfl A rfl 29 _ (0, 0) _ F1.out Tryd.underlying29 rfl (cellsN29 d x) ?_)
      refine (named_any d x wr HX.out).mono ?_
      rintro q w1 ⟨v1, rfl, hh, hb⟩
      have J1 := Kp.mk hh
      have J2 := Kp.mk (((HB.out.keep hb).mono hb.size))
      have E3 := Kp.mk (F3.out.keep hb)
      have E4 : Kp (Below A w w1) := ⟨F4.out.trans (hb.mono (by have := F3.out.lt; omega))⟩
      obtain ⟨a1, n1, c1, rfl, -⟩ := hh.slice
      obtain ⟨a2, n2, c2, rfl, -⟩ := HB.out.slice
      clear hh hb F1 F2 F3 F4 HB
      go_wp2_with fail
      have HP : Kp (HoldsP (w1.alloc (.cells #[.slice a1 n1 c1, .slice a2 n2 c2] 32)) (.slice (some ⟨w1.heap.size, 0, none⟩) 2 2) [headL d x, S]) := ⟨holdsP_two J1.out J2.out⟩
      have D3 : Kp (Row (w1.alloc (.cells #[.slice a1 n1 c1, .slice a2 n2 c2] 32)) (A + 2) 27 .u8 (fill 16 [])) := ⟨Row.alloc E3.out _⟩
      have D4 : Kp (Below A w (w1.alloc (.cells #[.slice a1 n1 c1, .slice a2 n2 c2] 32))) := ⟨E4.out.alloc (by have := E3.out.lt; omega) _⟩
      generalize w1.heap.size = g1 at HP ⊢
      generalize w1.alloc (.cells #[.slice a1 n1 c1, .slice a2 n2 c2] 32) = W2 at HP D3 D4 ⊢
      clear J1 J2 E3 E4
      refine (short_any 80 _ 2 2 _ W2 (HK.out.keep (by rw [← HA.out]; exact D4.out)) (by omega) HP.out (by simp [headL_len, HS.out])).mono ?_
      rintro q w3 ⟨rfl, hb⟩
      have K3 := Kp.mk (D3.out.keep hb)
      have K4 : Kp (Below A w w3) := ⟨D4.out.trans (hb.mono (by have := D3.out.lt; omega))⟩
      rw [show shortL (80 :: [headL d x, S].flatten) = q0 by rw [wholeT_flat, ← HQ.out]]
      clear hb D3 D4 HP
      have HCq := Kp.mk (cells50 HQl.out)
      have KR := Kp.mk (K3.out.setRow q0)
      have KB := Kp.mk (Below.row K4.out (g := A + 2) (by omega) (kv .u8 q0).toArray)
      go_wp2_with (refine wpList_store_row rfl 27 (.tmp 4) (.tmp 20) rfl (A + 2) (kv .u8 q0).toArray rfl rfl 27 _ K3.out HCq.out (size50 HQl.out) (kv_all _ _) ?_)
      refine bodyPost_ret (v := dgV q0) ?_ rfl ⟨rfl, by rw [← HA.out]; exact KB.out⟩
      exact results_cell_row rfl _ _ (A + 2) 27 _ (0, 0) _ rfl KR.out Tryd.underlying27 rfl HCq.out
end Go.Proofs.YtpljjmdkagbjpaaDoor

namespace Go.Proofs.YtpljjmdkagbjpaaDoor
open Go.RowKit

theorem exec_load_mid {P : Program} {o : Oper} {a : Act} {w : World} {ty : TypeId} {x : Operand} {b off : Nat} {cs : List Value} {d : TypeDesc} (ho : o.op = .load ty x) (hx : a.eval x = .pointer (some ⟨b, off, none⟩)) (hc : w.rangeAt b off cs)
    (hu : P.underlying ty = some d) (hd : d.isRow = true) (hi : (P.info? ty).map (·.size) = some cs.length) : (execOp a.eval o).run P w = .ok (.value (.agg cs.toArray)) w := by
  unfold execOp
  simp only [ho, hx, Instr.loadAt, Instr.sureAddr, Sem.run_bind, Sem.run_pure, Result.andThen_ok, run_loadVar_mid w b off ty cs d hc hu hd hi]

theorem Row.setCells {b : Nat} {t : TypeId} {k : IntKind} : ∀ (z : List Int) (o : Nat) (w : World) (l : List Int), o + z.length ≤ l.length → Row w b t k l → Row (w.setCells b o (kv k z)) b t k (splice l o z)
  | [], o, w, l, _, h => by
    have e : splice l o [] = l := by simp [splice]
    rw [e]
    exact h
  | x :: r, o, w, l, hl, h => by
    have h1 := Row.setCells (b := b) (t := t) (k := k) r (o + 1) _ (l.set o x) (by simp at hl ⊢; omega) (h.set o x)
    have e : splice (l.set o x) (o + 1) r = splice l o (x :: r) := by
      simp at hl
      unfold splice
      have e1 : (l.set o x).take (o + 1) = l.take o ++ [x] := by
        rw [List.take_add_one, List.take_set_of_le (Nat.le_refl o)]
        simp [List.getElem?_set_self (show o < l.length by omega)]
      have e2 : (l.set o x).drop (o + 1 + r.length) = l.drop (o + 1 + r.length) := List.drop_set_of_lt (by omega)
      rw [e1, e2, List.append_assoc, List.singleton_append, List.cons_append, List.length_cons, show o + 1 + r.length = o + (r.length + 1) by omega]
    rw [e] at h1
    exact h1
theorem Below.cells {B b : Nat} (hB : B ≤ b) : ∀ (vs : List Value) (o : Nat) (a w : World), Below B a w → Below B a (w.setCells b o vs)
  | [], _, _, _, h => h
  | v :: r, o, _, w, h => Below.cells hB r (o + 1) _ _ (h.setCell (p := ⟨b, o, none⟩) hB v)
theorem Row.there {w : World} {b : Nat} {t : TypeId} {k : IntKind} {l : List Int} (h : Row w b t k l) {o n : Nat} (hl : o + n ≤ l.length) : w.there b o n := fun j hj =>
  ⟨by rw [h.cell (i := o + j) (by omega)]; rfl, h.frozen (o + j)⟩
theorem Row.otherCells {b g : Nat} {t : TypeId} {k : IntKind} {l : List Int} (hne : g ≠ b) : ∀ (vs : List Value) (o : Nat) (w : World), Row w b t k l → Row (w.setCells g o vs) b t k l
  | [], _, _, h => h
  | v :: r, o, _, h => Row.otherCells hne r (o + 1) _ (h.other (p := ⟨g, o, none⟩) hne v)
theorem Blk.otherCells {b g : Nat} {x : Obj} (hne : g ≠ b) : ∀ (vs : List Value) (o : Nat) (w : World), Blk w b x → Blk (w.setCells g o vs) b x
  | [], _, _, h => h
  | v :: r, o, _, h => Blk.otherCells hne r (o + 1) _ (h.setOther (p := ⟨g, o, none⟩) hne v)
/-- The middle of a row. -/
theorem Row.mid {w : World} {b : Nat} {t : TypeId} {k : IntKind} {l : List Int} (h : Row w b t k l) {o n : Nat} (hl : o + n ≤ l.length) : w.rangeAt b o (kv k ((l.drop o).take n)) := by
  intro j v hv
  have hj : j < n := by
    have h1 := (List.getElem?_eq_some_iff.1 hv).1
    simp at h1
    omega
  rw [h.cell (i := o + j) (by omega)]
  rw [List.getElem?_map, List.getElem?_take, if_pos hj, List.getElem?_drop, List.getElem?_eq_getElem (by omega)] at hv
  simp at hv
  rw [List.getD_eq_getElem?_getD, List.getElem?_eq_getElem (by omega)]
  simpa using hv
end Go.Proofs.YtpljjmdkagbjpaaDoor

namespace Go.Proofs.YtpljjmdkagbjpaaDoor

/-- The message's digit i. -/
def dig (m : List Int) (i : Nat) : Int := m.getD (i / 4) 0 / 4 ^ (3 - i % 4) % 4
/-- What is left behind k digits. -/
def leftU (m : List Int) : Nat → Int
  | 0 => 0
  | k + 1 => leftU m k + (3 - dig m k)
def chk (l : Int) (j : Nat) : Int := l / 4 ^ (3 - j) % 4
/-- All digits. -/
def digA (m : List Int) (c : Nat) : Int := if c < 64 then dig m c else chk (leftU m 64) (c - 64)
theorem dig_range (m : List Int) (i : Nat) : 0 ≤ dig m i ∧ dig m i ≤ 3 := by unfold dig; omega
theorem leftU_range (m : List Int) (k : Nat) : 0 ≤ leftU m k ∧ leftU m k ≤ 3 * k := by
  induction k with
  | zero => simp [leftU]
  | succ k ih =>
    have := dig_range m k
    show 0 ≤ leftU m k + (3 - dig m k) ∧ leftU m k + (3 - dig m k) ≤ _
    omega
theorem digA_range (m : List Int) (c : Nat) : 0 ≤ digA m c ∧ digA m c ≤ 3 := by
  unfold digA
  split
  · exact dig_range m c
  · unfold chk; omega
theorem chk_all {l : Int} (h0 : 0 ≤ l) (h1 : l < 256) : l = 64 * chk l 0 + 16 * chk l 1 + 4 * chk l 2 + chk l 3 := by
  simp only [chk, Nat.sub_zero, Nat.reduceSub]
  omega
theorem leftU_le {a b : List Int} (k : Nat) (h : ∀ i, i < k → dig b i ≤ dig a i) : leftU a k ≤ leftU b k := by
  induction k with
  | zero => simp [leftU]
  | succ k ih =>
    have h1 := ih fun i hi => h i (by omega)
    have h2 := h k (by omega)
    show leftU a k + (3 - dig a k) ≤ leftU b k + (3 - dig b k)
    omega
theorem leftU_lt {a b : List Int} (k : Nat) (h : ∀ i, i < k → dig b i ≤ dig a i) (i : Nat) (hi : i < k) (hne : dig b i ≠ dig a i) : leftU a k < leftU b k := by
  induction k with
  | zero => omega
  | succ k ih =>
    have h1 := leftU_le k (a := a) (b := b) fun i hi => h i (by omega)
    have h2 := h k (by omega)
    show leftU a k + (3 - dig a k) < leftU b k + (3 - dig b k)
    by_cases e : i = k
    · subst e; omega
    · have := ih (fun i hi => h i (by omega)) (by omega)
      omega
theorem byte_of (m : List Int) (j : Nat) (h0 : 0 ≤ m.getD j 0) (h1 : m.getD j 0 ≤ 255) : m.getD j 0 = 64 * dig m (4 * j) + 16 * dig m (4 * j + 1) + 4 * dig m (4 * j + 2) + dig m (4 * j + 3) := by
  unfold dig
  rw [show 4 * j / 4 = j by omega, show (4 * j + 1) / 4 = j by omega, show (4 * j + 2) / 4 = j by omega, show (4 * j + 3) / 4 = j by omega,
    show 4 * j % 4 = 0 by omega, show (4 * j + 1) % 4 = 1 by omega, show (4 * j + 2) % 4 = 2 by omega, show (4 * j + 3) % 4 = 3 by omega]
  generalize m.getD j 0 = x at *
  simp only [Nat.sub_zero, Nat.reduceSub]
  omega
theorem same_of_digs {a b : List Int} (ha : a.length = 16) (hb : b.length = 16) (ba : ∀ x ∈ a, 0 ≤ x ∧ x ≤ 255) (bb : ∀ x ∈ b, 0 ≤ x ∧ x ≤ 255) (h : ∀ i, i < 64 → dig a i = dig b i) : a = b := by
  apply List.ext_getElem (by omega)
  intro j h1 h2
  have ea : a.getD j 0 = a[j] := by rw [List.getD_eq_getElem?_getD, List.getElem?_eq_getElem h1]; rfl
  have eb : b.getD j 0 = b[j] := by rw [List.getD_eq_getElem?_getD, List.getElem?_eq_getElem h2]; rfl
  have ka := byte_of a j (by rw [ea]; exact (ba _ (List.getElem_mem _)).1) (by rw [ea]; exact (ba _ (List.getElem_mem _)).2)
  have kb := byte_of b j (by rw [eb]; exact (bb _ (List.getElem_mem _)).1) (by rw [eb]; exact (bb _ (List.getElem_mem _)).2)
  rw [h (4 * j) (by omega), h (4 * j + 1) (by omega), h (4 * j + 2) (by omega), h (4 * j + 3) (by omega)] at ka
  rw [← ea, ← eb, ka, ← kb]
theorem apart {a b : List Int} (ha : a.length = 16) (hb : b.length = 16) (ba : ∀ x ∈ a, 0 ≤ x ∧ x ≤ 255) (bb : ∀ x ∈ b, 0 ≤ x ∧ x ≤ 255) (hne : a ≠ b) : ∃ c, c < 68 ∧ digA a c < digA b c := by
  apply Classical.byContradiction
  intro hno
  have hle : ∀ c, c < 68 → digA b c ≤ digA a c := fun c hc => by
    by_cases h : digA a c < digA b c
    · exact absurd ⟨c, hc, h⟩ hno
    · omega
  have hd : ∀ i, i < 64 → dig b i ≤ dig a i := fun i hi => by
    have h := hle i (by omega)
    unfold digA at h
    rwa [if_pos hi, if_pos hi] at h
  have hex : ∃ i, i < 64 ∧ dig b i ≠ dig a i := by
    apply Classical.byContradiction
    intro hn
    exact hne (same_of_digs ha hb ba bb fun i hi => Classical.byContradiction fun h => hn ⟨i, hi, fun e => h e.symm⟩)
  obtain ⟨i, hi, hne2⟩ := hex
  have hlt := leftU_lt 64 hd i hi hne2
  have ra := leftU_range a 64
  have rb := leftU_range b 64
  have ka := chk_all ra.1 (by omega)
  have kb := chk_all rb.1 (by omega)
  have hc : ∀ j, j < 4 → chk (leftU b 64) j ≤ chk (leftU a 64) j := fun j hj => by
    have h := hle (64 + j) (by omega)
    unfold digA at h
    rw [if_neg (by omega), if_neg (by omega), show 64 + j - 64 = j by omega] at h
    exact h
  have h0 := hc 0 (by omega)
  have h1 := hc 1 (by omega)
  have h2 := hc 2 (by omega)
  have h3 := hc 3 (by omega)
  omega
/-- Is some digit of the first c lower? -/
def lowU (a b : List Int) : Nat → Bool
  | 0 => false
  | c + 1 => lowU a b c || decide (digA a c < digA b c)
theorem lowU_some {a b : List Int} : ∀ n c, c < n → digA a c < digA b c → lowU a b n = true := by
  intro n
  induction n with
  | zero => intro c hc; omega
  | succ n ih =>
    intro c hc h
    show (lowU a b n || decide (digA a n < digA b n)) = true
    by_cases e : c = n
    · subst e; simp [h]
    · simp [ih c (by omega) h]
theorem lowU_same (a : List Int) (n : Nat) : lowU a a n = false := by
  induction n with
  | zero => rfl
  | succ n ih =>
    show (lowU a a n || decide (digA a n < digA a n)) = false
    rw [ih]
    simp
end Go.Proofs.YtpljjmdkagbjpaaDoor

namespace Go.Proofs.YtpljjmdkagbjpaaDoor
open Go.RowKit

/-- All digits, in a row. -/
def digS (m : List Int) : List Int := (List.range 68).map (digA m)
theorem digS_len (m : List Int) : (digS m).length = 68 := by simp [digS]
theorem digS_at (m : List Int) {c : Nat} (h : c < 68) : (digS m).getD c 0 = digA m c := by
  unfold digS
  rw [List.getD_eq_getElem?_getD, List.getElem?_map, List.getElem?_range h]
  rfl
/-- The digits that are set, zeros elsewhere. -/
def part (m : List Int) (S : Nat → Bool) : List Int := (List.range 68).map fun c => if S c then digA m c else 0
theorem part_len (m : List Int) (S : Nat → Bool) : (part m S).length = 68 := by simp [part]
theorem part_get (m : List Int) (S : Nat → Bool) {j : Nat} (h : j < 68) : (part m S)[j]? = some (if S j then digA m j else 0) := by
  unfold part
  rw [List.getElem?_map, List.getElem?_range h]
  rfl
theorem part_none (m : List Int) : part m (fun c => decide (c < 0)) = List.replicate 68 0 := by
  apply List.ext_getElem?
  intro j
  by_cases h : j < 68
  · rw [part_get m _ h, List.getElem?_replicate, if_pos h]
    simp
  · rw [List.getElem?_eq_none (by rw [part_len]; omega), List.getElem?_eq_none (by simp; omega)]
theorem part_step (m : List Int) (S T : Nat → Bool) (i : Nat) (hi : i < 68) (hT : ∀ c, T c = (S c || decide (c = i))) : (part m S).set i (digA m i) = part m T := by
  apply List.ext_getElem?
  intro j
  rw [List.getElem?_set, part_len]
  by_cases h : j < 68
  · rw [part_get m T h, hT j, part_get m S h]
    by_cases e : i = j
    · subst e; simp [h]
    · have e2 : decide (j = i) = false := decide_eq_false fun h => e h.symm
      rw [if_neg e, e2, Bool.or_false]
  · rw [List.getElem?_eq_none (l := part m T) (by rw [part_len]; omega), List.getElem?_eq_none (l := part m S) (by rw [part_len]; omega)]
    split
    · rename_i e; omega
    · rfl
theorem part_all (m : List Int) (S : Nat → Bool) (h : ∀ c, c < 68 → S c = true) : part m S = digS m := by
  unfold part digS
  apply List.map_congr_left
  intro c hc
  rw [h c (List.mem_range.1 hc)]
  rfl
theorem wr64 {n : Int} (h : -9223372036854775808 ≤ n ∧ n ≤ 9223372036854775807) : wrap64 n = n := by unfold wrap64; omega
theorem and3 (y : Int) (h : 0 ≤ y ∧ y ≤ 255) : bits .and .u8 y 3 = y % 4 := by
  have key : ∀ a : Fin 256, bits .and .u8 (a.val : Int) 3 = (a.val : Int) % 4 := by decide +kernel
  have k := key ⟨y.toNat, by omega⟩
  rw [show ((y.toNat : Nat) : Int) = y by omega] at k
  exact k
theorem and3i (y : Int) (h : 0 ≤ y ∧ y ≤ 255) : bits .and .i64 y 3 = y % 4 := by
  have key : ∀ a : Fin 256, bits .and .i64 (a.val : Int) 3 = (a.val : Int) % 4 := by decide +kernel
  have k := key ⟨y.toNat, by omega⟩
  rw [show ((y.toNat : Nat) : Int) = y by omega] at k
  exact k
theorem shr_dig (x : Int) (h : 0 ≤ x ∧ x ≤ 255) (j : Nat) (hj : j < 4) : bits .and .u8 (x / 2 ^ (6 - 2 * j)) 3 = x / 4 ^ (3 - j) % 4 := by
  have hc : j = 0 ∨ j = 1 ∨ j = 2 ∨ j = 3 := by omega
  rcases hc with rfl | rfl | rfl | rfl
  · rw [and3 _ (by simp only [Nat.mul_zero, Nat.sub_zero]; omega)]; rfl
  · rw [and3 _ (by simp only [Nat.mul_one, Nat.reduceSub]; omega)]; rfl
  · rw [and3 _ (by simp only [Nat.reduceMul, Nat.reduceSub]; omega)]; rfl
  · rw [and3 _ (by simp only [Nat.reduceMul, Nat.reduceSub]; omega)]; rfl
theorem size33 : (Tryd.prog.info? 51).map (·.size) = some 68 := by kernel_rfl
set_option maxRecDepth 100000 in
set_option maxHeartbeats 4000000 in
theorem digits_any (m : List Int) (w : World) (hm : m.length = 16) (hb : Bytes m) :
    Calls Tryd.prog 41 #[.agg (kv .u8 m).toArray] w fun r w' => r = .returned (.agg (kv .u8 (digS m)).toArray) ∧ Below w.heap.size w w' := by
  have HM := Kp.mk hm
  have HB := Kp.mk hb
  obtain ⟨dl, hdl⟩ : ∃ dl, dl = digS m := ⟨_, rfl⟩
  rw [← hdl]
  have HDL := Kp.mk hdl
  clear hdl
  go_enter Tryd.func41, Tryd.ntmps41
  go_wp2_with (refine wpList_alloc_row rfl 51 rfl _ _ info33 ?_)
  obtain ⟨A, hA⟩ : ∃ A, A = w.heap.size := ⟨_, rfl⟩
  have HA := Kp.mk hA
  rw [← hA]
  refine wp_world (fun w2 => Row w2 A 27 .u8 m ∧ Row w2 (A + 1) 51 .u8 (List.replicate 68 0) ∧ Row w2 (A + 1 + 1) 51 .u8 (List.replicate 68 0) ∧ Below A w w2) ⟨(Blk.newAt (w := w) (.cells (kv .u8 m).toArray 27) hA).old _ |>.old _, (Blk.newAt _ (by rw [hA]; simp)).old _, Blk.newAt _ (by rw [hA]; simp), by rw [hA]; exact more (more (more (Below.refl _ _) _) _) _⟩ ?_
  rintro w2 ⟨h1, h2, h3, h4⟩
  have G1 := Kp.mk h1
  have G2 := Kp.mk h2
  have G3 := Kp.mk h3
  have G4 := Kp.mk h4
  clear h1 h2 h3 h4 hA
  go_loopw [4, 7] (fun l c wr => ∃ k : Nat, k ≤ 64 ∧ c = .int .i64 k ∧ l = .int .i64 (leftU m k) ∧ Kp (Row wr A 27 .u8 m) ∧ Kp (Row wr (A + 1) 51 .u8 (List.replicate 68 0)) ∧ Kp (Row wr (A + 1 + 1) 51 .u8 (part m fun c => decide (c < k))) ∧ Kp (Below A w wr)) (fun _ c _ => 64 - (intOf c).toNat)
  case atStart => exact ⟨0, by omega, rfl, rfl, G1, G2, ⟨by rw [part_none]; exact G3.out⟩, G4⟩
  case round =>
    obtain ⟨k, hk, rfl, rfl, F1, F2, F3, F4⟩ := hrel
    clear G1 G2 G3 G4
    by_cases hlt : k < 64
    · have hx := F1.out.cell (i := k / 4) (by have := HM.out; omega)
      have hxb := HB.out.at (i := k / 4) (by have := HM.out; omega)
      have hfr := F3.out.frozen k
      have hl := leftU_range m k
      have hs := shr_dig (m.getD (k / 4) 0) hxb (k % 4) (by omega)
      rw [show m.getD (k / 4) 0 / 4 ^ (3 - k % 4) % 4 = dig m k from rfl] at hs
      have HS := Kp.mk (And.intro hs (dig_range m k))
      have HL := Kp.mk (show leftU m (k + 1) = leftU m k + (3 - dig m k) from rfl)
      have HT := Kp.mk (part_step m (fun c => decide (c < k)) (fun c => decide (c < k + 1)) k (by omega) (fun c => by by_cases h1 : c < k <;> by_cases h2 : c = k <;> simp [h1, h2] <;> omega))
      have HD : Kp (digA m k = dig m k) := ⟨if_pos hlt⟩
      clear hs
      generalize leftU m k = l at *
      generalize m.getD (k / 4) 0 = x at *
      have hlt' : (k : Int) < 64 := by omega
      have hd := F3.out.cell (i := k) (by rw [part_len]; omega)
      generalize (part m fun c => decide (c < k)).getD k 0 = d0 at *
      go_wp2_with fail
      rw [HS.out.1]
      have hr := HS.out.2
      have e1 : wrap64 (l + wrap64 (3 - wrap64 (dig m k))) = leftU m (k + 1) := by
        rw [HL.out, wr64 (n := dig m k) (by omega), wr64 (n := 3 - dig m k) (by omega), wr64 (by omega)]
      rw [e1]
      refine ⟨⟨k + 1, by omega, by go_num, rfl, ⟨F1.out.other (by show A + 1 + 1 ≠ A; omega) _⟩, ⟨F2.out.other (by show A + 1 + 1 ≠ A + 1; omega) _⟩, ⟨((F3.out.set k _).as (by rw [← HD.out]; exact HT.out))⟩, ⟨F4.out.setCell (p := ⟨A + 1 + 1, k, none⟩) (by show A ≤ A + 1 + 1; omega) _⟩⟩, by simp [intOf]; omega⟩
    · obtain rfl : k = 64 := by omega
      have hlr := leftU_range m 64
      have hge : ¬ ((64 : Nat) : Int) < 64 := by omega
      generalize hL : leftU m 64 = l at *
      have HL := Kp.mk hL
      clear hL
      go_wp2_with fail
      go_loopw [30] (fun c wq => ∃ j : Nat, j ≤ 4 ∧ c = .int .i64 j ∧ Kp (Row wq (A + 1) 51 .u8 (List.replicate 68 0)) ∧ Kp (Row wq (A + 1 + 1) 51 .u8 (part m fun c => decide (c < 64) || decide (68 - j ≤ c))) ∧ Kp (Below A w wq)) (fun c _ => 4 - (intOf c).toNat)
      case atStart => exact ⟨0, by omega, rfl, F2, ⟨F3.out.as (by unfold part; apply List.map_congr_left; intro c hc; have := List.mem_range.1 hc; have e : decide (68 - 0 ≤ c) = false := decide_eq_false (by omega); simp only [e, Bool.or_false])⟩, F4⟩
      case round =>
        obtain ⟨j, hj, rfl, E2, E3, E4⟩ := hrel
        clear F1 F2 F3 F4
        by_cases hlt2 : j < 4
        · have hlt2' : (j : Int) < 4 := by omega
          have hfr := E3.out.frozen (67 - j)
          have hd := E3.out.cell (i := 67 - j) (by rw [part_len]; omega)
          generalize (part m fun c => decide (c < 64) || decide (68 - j ≤ c)).getD (67 - j) 0 = d0 at *
          go_wp2_with fail
          have hc : bits .and .i64 (l / 2 ^ (2 * j)) 3 % 256 = digA m (67 - j) := by
            have hlb : 0 ≤ l ∧ l ≤ 255 := by omega
            unfold digA
            rw [if_neg (by omega), HL.out]
            unfold chk
            have hcs : j = 0 ∨ j = 1 ∨ j = 2 ∨ j = 3 := by omega
            rcases hcs with rfl | rfl | rfl | rfl
            · rw [and3i _ (by simp only [Nat.mul_zero]; omega)]
              show l / 1 % 4 % 256 = l / 1 % 4
              omega
            · rw [and3i _ (by show 0 ≤ l / 4 ∧ l / 4 ≤ 255; omega)]
              show l / 4 % 4 % 256 = l / 4 % 4
              omega
            · rw [and3i _ (by show 0 ≤ l / 16 ∧ l / 16 ≤ 255; omega)]
              show l / 16 % 4 % 256 = l / 16 % 4
              omega
            · rw [and3i _ (by show 0 ≤ l / 64 ∧ l / 64 ≤ 255; omega)]
              show l / 64 % 4 % 256 = l / 64 % 4
              omega
          rw [hc]
          have hT := part_step m (fun c => decide (c < 64) || decide (68 - j ≤ c)) (fun c => decide (c < 64) || decide (68 - (j + 1) ≤ c)) (67 - j) (by omega) (fun c => by
            by_cases h1 : c < 64
            · simp [h1]
            · by_cases h2 : 68 - j ≤ c
              · have h3 : 68 - (j + 1) ≤ c := by omega
                simp [h2, h3]
                omega
              · by_cases h3 : c = 67 - j
                · have h4 : 68 - (j + 1) ≤ c := by omega
                  simp [h1, h3]
                · have h4 : ¬ 68 - (j + 1) ≤ c := by omega
                  have e1 : decide (c < 64) = false := decide_eq_false h1
                  have e2 : decide (68 - j ≤ c) = false := decide_eq_false h2
                  have e3 : decide (c = 67 - j) = false := decide_eq_false h3
                  have e4 : decide (68 - (j + 1) ≤ c) = false := decide_eq_false h4
                  rw [e1, e2, e3, e4]
                  rfl)
          refine ⟨⟨j + 1, by omega, by go_num, ⟨E2.out.other (by show A + 1 + 1 ≠ A + 1; omega) _⟩, ⟨(E3.out.set (67 - j) _).as hT⟩, ⟨E4.out.setCell (p := ⟨A + 1 + 1, 67 - j, none⟩) (by show A ≤ A + 1 + 1; omega) _⟩⟩, by simp [intOf]; omega⟩
        · obtain rfl : j = 4 := by omega
          have hge2 : ¬ ((4 : Nat) : Int) < 4 := by omega
          have K3 : Kp (Row wr (A + 1 + 1) 51 .u8 dl) := ⟨HDL.out ▸ E3.out.as (part_all m _ fun c hc => by
            by_cases h : c < 64
            · simp [h]
            · have h4 : 68 - 4 ≤ c := by omega
              simp [h4])⟩
          have hlen : dl.length = 68 := by rw [HDL.out]; exact digS_len m
          have HLN := Kp.mk hlen
          have HC33 : Kp ((Tryd.prog.info? 51).map (·.size) = some (kv .u8 dl).toArray.size) := ⟨by rw [show (kv .u8 dl).toArray.size = 68 by simp [hlen]]; exact size33⟩
          have KR := Kp.mk (E2.out.setRow dl)
          have KB := Kp.mk (Below.row E4.out (g := A + 1) (by omega) (kv .u8 dl).toArray)
          have HZ : Kp ((kv .u8 (List.replicate 68 0)).toArray.size = (kv .u8 dl).toArray.size) := ⟨by rw [kv_size, kv_size, hlen]; simp⟩
          clear E3 hlen
          go_wp2_with (first
            | (refine wpList_load_row rfl 51 (.tmp 3) rfl (A + 1 + 1) rfl 51 (kv .u8 dl).toArray (0, 0) _ K3.out Tryd.underlying51 rfl HC33.out ?_)
            | (refine wpList_store_row rfl 51 (.tmp 2) (.tmp 43) rfl (A + 1) (kv .u8 dl).toArray rfl rfl 51 _ E2.out HC33.out HZ.out (kv_all _ _) ?_))
          refine bodyPost_ret (v := .agg (kv .u8 dl).toArray) (results_cell_row rfl _ _ (A + 1) 51 _ (0, 0) _ rfl KR.out Tryd.underlying51 rfl HC33.out) rfl ⟨rfl, by rw [← HA.out]; exact KB.out⟩
end Go.Proofs.YtpljjmdkagbjpaaDoor

namespace Go.Proofs.YtpljjmdkagbjpaaDoor
open Go.RowKit

/-- Digit c of a message. -/
def dgt (m : List Int) (c : Nat) : Nat := (digA m c).toNat
theorem dgt_is (m : List Int) (c : Nat) : (dgt m c : Int) = digA m c ∧ dgt m c ≤ 3 := by
  have := digA_range m c
  unfold dgt
  omega
/-- The links behind k chains. -/
def recL (d x : Int) (m S : List Int) : Nat → List Int
  | 0 => S
  | k + 1 => splice (recL d x m S k) (k * 16) (runS d x k (dgt m k) (linkAt (recL d x m S k) k) (3 - dgt m k))
theorem recL_ok (d x : Int) (m : List Int) {S : List Int} (h : S.length = 1088) (hb : Bytes S) : ∀ k, k ≤ 68 → (recL d x m S k).length = 1088 ∧ Bytes (recL d x m S k) := by
  intro k
  induction k with
  | zero => intro _; exact ⟨h, hb⟩
  | succ k ih =>
    intro hk
    obtain ⟨h1, h2⟩ := ih (by omega)
    have hl := runS_len d x k (dgt m k) (linkAt_len h1 (c := k) (by omega)) (3 - dgt m k)
    have hbb := runS_bytes d x k (dgt m k) (linkAt_bytes h2 k) (3 - dgt m k)
    refine ⟨?_, splice_bytes h2 hbb⟩
    show (splice _ _ _).length = 1088
    rw [length_splice _ _ _ (by rw [hl, h1]; omega)]
    exact h1
end Go.Proofs.YtpljjmdkagbjpaaDoor

namespace Go.Proofs.YtpljjmdkagbjpaaDoor
open Go.RowKit

theorem infoT43 : (Tryd.prog.info? 43).map (·.size) = some 1088 := by kernel_rfl
theorem cellsT43 {S : List Int} (h : S.length = 1088) : (Tryd.prog.info? 43).map (·.size) = some (kv .u8 S).toArray.size := by rw [kv_size, h]; exact infoT43
theorem infoT25 : (Tryd.prog.info? 25).map (·.size) = some 16 := by kernel_rfl
theorem cellsT25 {l : List Int} (h : l.length = 16) : (Tryd.prog.info? 25).map (·.size) = some (kv .u8 l).toArray.size := by rw [kv_size, h]; exact infoT25
theorem cellsLT25 {l : List Int} (h : l.length = 16) : (Tryd.prog.info? 25).map (·.size) = some (kv .u8 l).length := by rw [List.length_map, h]; exact infoT25
abbrev z16r : Obj := .cells (kv .u8 (fill 16 [])).toArray 25
set_option maxRecDepth 100000 in
set_option maxHeartbeats 4000000 in
theorem press_any (d x : Int) (S : List Int) (w : World) (hx : 0 ≤ x ∧ x < 4294967296) (hS : S.length = 1088) (hSb : Bytes S) :
    Calls Tryd.prog 51 #[nameV d x, .agg (kv .u8 S).toArray] w fun q w' => ∃ v', q = .returned v' ∧ HoldsB w' w'.heap.size v' (wholeT d x S) ∧ (∀ g, v'.ownBlock = some g → w.heap.size ≤ g) ∧ Below w.heap.size w w' := by
  have HX := Kp.mk hx
  have HS := Kp.mk hS
  have HSB := Kp.mk hSb
  have hC := fun (w : World) => box_row (t := 43) (cs := kv .u8 S) (cellsT43 hS) w
  clear hx hS hSb
  go_enter Tryd.func51, Tryd.ntmps51
  go_wp2_with (refine wpList_box_eq rfl 43 (.tmp 1) rfl _ rfl _ _ (hC _) ?_)
  obtain ⟨A, hA⟩ : ∃ A, A = w.heap.size := ⟨_, rfl⟩
  have HA := Kp.mk hA
  rw [← hA]
  refine wp_world (fun W => Blk W A (.cells #[.int .i64 d, .int .u32 x] 24) ∧ Row W (A + 1) 43 .u8 S ∧ Below A w W) ⟨?_, ?_, ?_⟩ ?_
  · exact Blk.old (Blk.newAt _ hA) _
  · exact Blk.newAt _ (by simp [hA])
  · rw [hA]; exact more (more (Below.refl _ _) _) _
  clear hA hC
  rintro W ⟨h1, h2, h4⟩
  have G1 := Kp.mk h1
  have G2 := Kp.mk h2
  have G4 := Kp.mk h4
  clear h1 h2 h4
  go_loopw [5, 6] (fun v5 c7 wr => ∃ k : Nat, k ≤ 68 ∧ c7 = .int .i64 k ∧ Kp (wr.ownsRow (A + 2) 5 1 v5 (S.take (k * 16)).length (bv (S.take (k * 16)))) ∧ Kp (Blk wr A (.cells #[.int .i64 d, .int .u32 x] 24)) ∧ Kp (Row wr (A + 1) 43 .u8 S) ∧ Kp (Below A w wr)) (fun _ c _ => 68 - (intOf c).toNat)
  case atStart => exact ⟨0, by omega, rfl, ⟨by simpa using World.ownsRow_nil W (A + 2) 5 1⟩, G1, G2, G4⟩
  case round =>
    obtain ⟨k, hk, rfl, F0, F1, F2, F4⟩ := hrel
    clear G1 G2 G4
    by_cases hlt : k < 68
    · have hlt' : (k : Int) < 68 := by omega
      have HT := Kp.mk (take_link S k)
      have HTl : Kp ((S.take (k * 16)).length ≤ 2000) := ⟨by rw [List.length_take, HS.out]; omega⟩
      have HLl := Kp.mk (linkAt_len HS.out hlt)
      have HLb := Kp.mk (linkAt_bytes HSB.out k)
      have HN : Kp ((S.take (k * 16)).length + (linkAt S k).length = (S.take ((k + 1) * 16)).length) := ⟨by rw [List.length_take, List.length_take, HLl.out, HS.out]; omega⟩
      generalize S.take (k * 16) = pk at F0 HT HTl HN
      obtain ⟨z, hz⟩ : ∃ z, z = linkAt S k := ⟨_, rfl⟩
      rw [← hz] at HT HLl HLb HN
      have HR : Kp (wr.rangeAt (A + 1) (k * 16) (kv .u8 z)) := ⟨by rw [hz]; exact F2.out.mid (by rw [HS.out]; omega)⟩
      clear hz
      have HC := Kp.mk (cellsT25 HLl.out)
      have HCL := Kp.mk (cellsLT25 HLl.out)
      have HZ := Kp.mk (size50 HLl.out)
      have hsz : A + 1 < wr.heap.size := F2.out.lt
      obtain ⟨W, hW⟩ : ∃ W, W = (wr.alloc z16r).setRow wr.heap.size (kv .u8 z).toArray := ⟨_, rfl⟩
      have HBW : Kp (Below wr.heap.size wr W) := ⟨by rw [hW]; exact Below.row (more (Below.refl _ _) z16r) (Nat.le_refl _) _⟩
      have HRD : Kp (Row W wr.heap.size 25 .u8 z) := ⟨by rw [hW]; exact Row.setRow (k := .u8) (l := fill 16 []) (Blk.new wr z16r) _⟩
      have HH : Kp (HoldsB W W.heap.size (.slice (some ⟨wr.heap.size, 0, none⟩) 16 16) z) := ⟨by
        have h := HoldsB.ofBytes HRD.out HLb.out (by rw [HLl.out]; decide)
        rw [HLl.out] at h
        exact h⟩
      have E0 : Kp (W.ownsRow (A + 2) 5 1 u5 pk.length (bv pk)) := ⟨ownsRow_below F0.out HBW.out⟩
      have E1 : Kp (Blk W A (.cells #[.int .i64 d, .int .u32 x] 24)) := ⟨F1.out.keep HBW.out⟩
      have E2 : Kp (Row W (A + 1) 43 .u8 S) := ⟨F2.out.keep HBW.out⟩
      have E4 : Kp (Below A w W) := ⟨F4.out.trans (HBW.out.mono (by omega))⟩
      have HWs : Kp (A + 2 ≤ W.heap.size) := ⟨by have := HBW.out.size; omega⟩
      have hs := slice25_all16 wr.heap.size
      clear F0 F1 F2 F4 hsz HBW HRD
      go_wp2_with (first
        | (refine wpList_load_mid rfl 25 (.tmp 13) rfl (A + 1) (k * 16) rfl (kv .u8 z) _ HR.out Tryd.underlying25 rfl HCL.out ?_)
        | (refine wpList_store_row rfl 25 (.tmp 7) (.tmp 14) rfl wr.heap.size (kv .u8 z).toArray rfl rfl 25 _ (Blk.new wr z16r) HC.out HZ.out (kv_all _ _) ?_; refine wpl_world (· = W) hW.symm ?_; clear hW; intro W0 e; rw [e]; clear e)
        | (at_builtin; refine wpList_append_holds rfl _ _ rfl (A + 2) _ _ _ rfl E0.out W.heap.size _ z rfl HH.out ?c0 ?c1 ?_))
      case c0 => have := HTl.out; have := HLl.out; omega
      case c1 => exact HWs.out
      intro v' w' ho hg
      have HO : Kp (w'.ownsRow (A + 2) 5 1 v' (S.take ((k + 1) * 16)).length (bv (S.take ((k + 1) * 16)))) := ⟨by rw [← HT.out, ← HN.out]; exact ho⟩
      have hB3 : Below (A + 2) W w' := (Below.refl _ W).grown hg HWs.out (fun j hj => (E0.out.lt j hj).1)
      have D1 : Kp (Blk w' A (.cells #[.int .i64 d, .int .u32 x] 24)) := ⟨E1.out.upto hB3 (by omega)⟩
      have D2 := Kp.mk (E2.out.upto hB3 (by omega))
      have D4 : Kp (Below A w w') := ⟨E4.out.trans (hB3.mono (by omega))⟩
      clear ho hg hB3 E0 E1 E2 E4 hs HH HWs
      go_wp2_with fail
      exact ⟨⟨k + 1, by omega, by go_num, HO, D1, D2, D4⟩, by simp [intOf]; omega⟩
    · obtain rfl : k = 68 := by omega
      have hge : ¬ ((68 : Nat) : Int) < 68 := by omega
      have HB : Kp (HoldsB wr wr.heap.size u5 S) := ⟨by
        have h := F0.out
        rw [List.take_of_length_le (by rw [HS.out]; omega)] at h
        exact HoldsB.ofRow HSB.out h⟩
      clear F0
      go_wp2_with (refine wpList_load_row rfl 24 (.tmp 2) rfl A rfl 24 _ (0, 0) _ F1.out Tryd.underlying24 rfl (cellsN24 d x) ?_)
      refine (head_any d x wr HX.out).mono ?_
      rintro q w1 ⟨v1, rfl, hh, hb⟩
      have J1 := Kp.mk hh
      have J2 := Kp.mk (((HB.out.keep hb).mono hb.size))
      have E4 : Kp (Below A w w1) := ⟨F4.out.trans (hb.mono (by have := F2.out.lt; omega))⟩
      have HAw : Kp (A < w1.heap.size) := ⟨by have := F2.out.lt; have := hb.size; omega⟩
      obtain ⟨a1, n1, c1, rfl, -⟩ := hh.slice
      obtain ⟨a2, n2, c2, rfl, -⟩ := HB.out.slice
      clear hh hb F1 F2 F4 HB
      go_wp2_with fail
      have HP : Kp (HoldsP (w1.alloc (.cells #[.slice a1 n1 c1, .slice a2 n2 c2] 32)) (.slice (some ⟨w1.heap.size, 0, none⟩) 2 2) [headL d x, S]) := ⟨holdsP_two J1.out J2.out⟩
      have D4 : Kp (Below A w (w1.alloc (.cells #[.slice a1 n1 c1, .slice a2 n2 c2] 32))) := ⟨E4.out.alloc (by have := HAw.out; omega) _⟩
      have HAx : Kp (A < (w1.alloc (.cells #[.slice a1 n1 c1, .slice a2 n2 c2] 32)).heap.size) := ⟨by have := HAw.out; simp; omega⟩
      generalize w1.heap.size = g1 at HP ⊢
      generalize w1.alloc (.cells #[.slice a1 n1 c1, .slice a2 n2 c2] 32) = W2 at HP D4 HAx ⊢
      clear J1 J2 E4 HAw
      refine (rtext_any 80 _ 2 2 _ W2 (by omega) HP.out (by simp [headL_len, HS.out])).mono ?_
      rintro q w3 ⟨v', rfl, hh, hfr, hb⟩
      rw [wholeT_flat] at hh
      have KF : Kp (∀ g, v'.ownBlock = some g → A ≤ g) := ⟨fun g hg => by have := hfr g hg; have := HAx.out; omega⟩
      clear hfr
      have K3 := Kp.mk hh
      have K4 : Kp (Below A w w3) := ⟨D4.out.trans (hb.mono (by have := HAx.out; omega))⟩
      clear hh hb D4 HP HAx
      go_wp2_with fail
      go_ret
      exact ⟨_, rfl, K3.out, by rw [← HA.out]; exact KF.out, by rw [← HA.out]; exact K4.out⟩
end Go.Proofs.YtpljjmdkagbjpaaDoor
