/-
  The document's Node of layer 7.
  The document's Height, Path and Root; a list of a length that a tree may have.
  Mathematics of GroveSound: what is summed begins with a byte that isn't 0, and isn't long; what a check says.
-/
import Derived.Test.YtahmioiefmheeaaDoorGn224
namespace Go.Proofs.YtahmioiefmheeaaDoor
open Go.RowKit

theorem HoldsP.nil0 (w : World) : HoldsP w (.slice none 0 0) [] := ⟨none, 0, rfl, by unfold maxLen; simp, fun i hi => by simp at hi⟩
theorem wpList_append_nils {w : World} {ops : Array Oper} {rest : List Oper} {o : Oper} {a : Act} {Q : Exit → Act → World → Prop} (hgd : o.guard = none) (s x : Operand)
    (ho : o.op = .call { callee := .builtin .append, args := #[s, x], argTypes := #[31, 31] }) (hs : a.eval s = .slice none 0 0) (hx : a.eval x = .slice none 0 0)
    (h : wpList Tryd.prog ops Q rest (a.put o.dst (.slice none 0 0)) w) : wpList Tryd.prog ops Q (o :: rest) a w := by
  obtain ⟨i0, hi, hz0, hz1, hz2⟩ := info_parts info22
  have hr := run_append_owned_none (P := Tryd.prog) (w := w) 0 31 o.type 22 i0 1 Tryd.underlying31 hi _ 0 [] (World.ownsRow_nil w 0 22 1)
  refine wpList_plain hgd fun _ hK => ?_
  unfold Oper.wp execOp
  simp only [ho, resolve, invoke, builtin, Sem.run_bind, Sem.run_pure, Result.andThen_ok, List.map_toArray, List.map_cons, List.map_nil, hs, hx, hr]
  exact hK _ _ h
theorem nodeGT_first (d e : Int) (L : List Int) : ∀ (v q : Nat), ∀ t ∈ nodeGT d e L v q, 0 < t.length ∧ t.getD 0 0 ≠ 0
  | 0, q, t, ht => by simp [nodeGT] at ht
  | v + 1, q, t, ht => by
    simp only [nodeGT, List.mem_append, List.mem_singleton] at ht
    rcases ht with (h | h) | h
    · exact nodeGT_first d e L v _ t h
    · exact nodeGT_first d e L v _ t h
    · subst h; exact ⟨by simp [aboveT], by simp [aboveT]⟩
set_option maxRecDepth 100000 in
set_option maxHeartbeats 2000000 in
theorem rnodeG_zero (d e : Int) (a : Option Addr) (n cap : Nat) (L : List Int) (q : Nat) (p : Int) (w : World) (hp : p = (q : Nat)) (hq : q + 1 ≤ n) (_hn : n ≤ 64) (hLl : L.length = n * 16) (_hLb : Bytes L) (hh : HoldsS w (.slice a n cap) n L) :
    Calls Tryd.prog 75 #[.int .i64 d, .int .u32 e, .slice a n cap, .int .i64 0, .int .i64 p] w fun r w' => r = .returned (.tuple #[dgV (nodeG d e L 0 q), .slice none 0 0]) ∧ Below w.heap.size w w' := by
  obtain ⟨b, off, rfl, hbl, hrange⟩ := hh.range (i := q) (by omega)
  have HZl := Kp.mk (segL_len hLl (j := q) (by omega))
  have HZe : Kp (nodeG d e L 0 q = segL L q) := ⟨rfl⟩
  rw [HZe.out]
  generalize segL L q = z at *
  subst hp
  have hR0 : (w.alloc z49).rangeAt b (off + q * 16) (kv .u8 z) := fun j v hv => ((more (Below.refl w.heap.size w) z49).cell (p := ⟨b, off + q * 16 + j, none⟩) hbl).trans (hrange j v hv)
  have HR := Kp.mk hR0
  have HF := Kp.mk (Row.setRow (k := .u8) (l := fill 16 []) (Blk.new w z49) z)
  have HBf := Kp.mk (Below.row (more (Below.refl w.heap.size w) z49) (g := w.heap.size) (Nat.le_refl _) (kv .u8 z).toArray)
  have hq0 : (0 : Int) ≤ (q : Int) := by omega
  have hq1 : (q : Int) < (n : Int) := by omega
  clear hrange hR0 hh hLl HZe
  go_enter Tryd.func75, Tryd.ntmps75
  go_wp2_with first
    | (refine wpList_load_mid rfl 32 (.tmp 22) rfl b (off + q * 16) rfl (kv .u8 z) _ HR.out Tryd.underlying32 rfl (cellsL32 HZl.out) ?_)
    | (refine wpList_store_row rfl 32 (.tmp 10) (.tmp 23) rfl w.heap.size (kv .u8 z).toArray rfl rfl 32 _ (Blk.new w z49) (cells49 HZl.out) (size50 HZl.out) (kv_all _ _) ?_)
  refine bodyPost_ret (v := .tuple #[dgV z, .slice none 0 0]) ?_ rfl ⟨rfl, HBf.out⟩
  exact results_row_tmp rfl _ _ w.heap.size 32 _ (0, 0) _ _ rfl rfl HF.out Tryd.underlying32 rfl (cells49 HZl.out)
set_option maxRecDepth 100000 in
set_option maxHeartbeats 4000000 in
theorem rnodeG_one (d e : Int) (a : Option Addr) (n cap : Nat) (L : List Int) (q : Nat) (p : Int) (w : World) (he : 0 ≤ e ∧ e < 4294967296) (hp : p = (q : Nat)) (hq : (q + 1) * 2 ^ (0 + 1) ≤ n) (hn : n ≤ 64) (hLl : L.length = n * 16) (hLb : Bytes L) (hh : HoldsS w (.slice a n cap) n L) :
    Calls Tryd.prog 75 #[.int .i64 d, .int .u32 e, .slice a n cap, .int .i64 1, .int .i64 p] w fun r w' => ∃ v', r = .returned (.tuple #[dgV (nodeG d e L (0 + 1) q), v']) ∧ HoldsP w' v' (nodeGT d e L (0 + 1) q) ∧ Below w.heap.size w w' := by
  have hpos : q + 1 ≤ 64 := by
    have h1 : q + 1 ≤ (q + 1) * 2 ^ (0 + 1) := Nat.le_mul_of_pos_right _ (Nat.pow_pos (by decide))
    omega
  have h2 : (q + 1) * 2 ^ (0 + 1) = (2 * q + 1 + 1) * 2 ^ 0 := by
    rw [Nat.pow_succ]
    generalize 2 ^ 0 = P
    rw [Nat.mul_comm P 2, ← Nat.mul_assoc]
    congr 1
    omega
  have hq2 : (2 * q + 1 + 1) * 2 ^ 0 ≤ n := by rw [← h2]; exact hq
  have hq1 : (2 * q + 1) * 2 ^ 0 ≤ n := Nat.le_trans (Nat.mul_le_mul_right _ (by omega)) hq2
  have HE := Kp.mk he
  have HP := Kp.mk hp
  have HLl := Kp.mk hLl
  have HLb := Kp.mk hLb
  have hp0 : 0 ≤ p := by omega
  have hp63 : p ≤ 63 := by omega
  have e1 : 2 * p = ((2 * q : Nat) : Int) := by omega
  have e2 : 2 * p + 1 = ((2 * q + 1 : Nat) : Int) := by omega
  have IH1 : Kp (∀ wx, HoldsS wx (.slice a n cap) n L → Calls Tryd.prog 75 #[.int .i64 d, .int .u32 e, .slice a n cap, .int .i64 0, .int .i64 (2 * p)] wx fun r w' => r = .returned (.tuple #[dgV (nodeG d e L 0 (2 * q)), .slice none 0 0]) ∧ Below wx.heap.size wx w') := ⟨fun wx hh => rnodeG_zero d e a n cap L (2 * q) (2 * p) wx e1 (by simpa using hq1) hn hLl hLb hh⟩
  have IH2 : Kp (∀ wx, HoldsS wx (.slice a n cap) n L → Calls Tryd.prog 75 #[.int .i64 d, .int .u32 e, .slice a n cap, .int .i64 0, .int .i64 (2 * p + 1)] wx fun r w' => r = .returned (.tuple #[dgV (nodeG d e L 0 (2 * q + 1)), .slice none 0 0]) ∧ Below wx.heap.size wx w') := ⟨fun wx hh => rnodeG_zero d e a n cap L (2 * q + 1) (2 * p + 1) wx e2 (by simpa using hq2) hn hLl hLb hh⟩
  have S1 := Kp.mk (nodeG_len (d := d) (e := e) hLl 0 (2 * q) hq1)
  have SB1 := Kp.mk (nodeG_bytes (d := d) (e := e) hLb 0 (2 * q))
  have S2 := Kp.mk (nodeG_len (d := d) (e := e) hLl 0 (2 * q + 1) hq2)
  have SB2 := Kp.mk (nodeG_bytes (d := d) (e := e) hLb 0 (2 * q + 1))
  have HNS : Kp (nodeG d e L (0 + 1) q = shortL (aboveT d e (1) (nodeG d e L 0 (2 * q)) (nodeG d e L 0 (2 * q + 1)))) := ⟨rfl⟩
  have HNT : Kp (nodeGT d e L (0 + 1) q = (nodeGT d e L 0 (2 * q) ++ nodeGT d e L 0 (2 * q + 1)) ++ [aboveT d e (1) (nodeG d e L 0 (2 * q)) (nodeG d e L 0 (2 * q + 1))]) := ⟨rfl⟩
  have N1 := Kp.mk (nodeGT_len d e L 0 (2 * q))
  have N2 := Kp.mk (nodeGT_len d e L 0 (2 * q + 1))
  have F1 := Kp.mk (nodeGT_first d e L (0 + 1) q)
  obtain ⟨NS, hNS⟩ : ∃ NS, NS = nodeG d e L (0 + 1) q := ⟨_, rfl⟩
  obtain ⟨NT, hNT⟩ : ∃ NT, NT = nodeGT d e L (0 + 1) q := ⟨_, rfl⟩
  rw [← hNS] at HNS
  rw [← hNT] at HNT F1
  have HNSe := Kp.mk hNS
  have HNTe := Kp.mk hNT
  clear hNS hNT
  have HY := Kp.mk hh
  have HN64 := Kp.mk hn
  have HX0 : Kp ([aboveT d e 1 (nodeG d e L 0 (2 * q)) (nodeG d e L 0 (2 * q + 1))] = NT) := ⟨HNT.out.symm⟩
  clear he hp hLl hLb e1 e2 hq1 hq2 h2 hq hpos hh hn
  generalize nodeG d e L 0 (2 * q) = s1 at *
  generalize nodeG d e L 0 (2 * q + 1) = s2 at *
  generalize nodeGT d e L 0 (2 * q) = t1 at *
  generalize nodeGT d e L 0 (2 * q + 1) = t2 at *
  go_enter Tryd.func75, Tryd.ntmps75
  go_wp2_with fail
  obtain ⟨A, hA⟩ : ∃ A, A = w.heap.size := ⟨_, rfl⟩
  have HA := Kp.mk hA
  rw [← hA]
  refine calls_world (fun W => Row W A 32 .u8 (fill 16 []) ∧ HoldsS W (.slice a n cap) n L ∧ Below A w W) ⟨Blk.newAt _ hA, HY.out.keep (more (Below.refl _ _) _), by rw [hA]; exact more (Below.refl _ _) _⟩ ?_
  clear hA
  rintro w0 ⟨q1, q2, q3⟩
  have R0 := Kp.mk q1
  have Y0 := Kp.mk q2
  have B0 := Kp.mk q3
  clear q1 q2 q3 HY
  refine (IH1.out w0 Y0.out).mono ?_
  rintro r w1 ⟨rfl, h2⟩
  have R1 := Kp.mk (R0.out.keep h2)
  have Y1 := Kp.mk (Y0.out.keep h2)
  have B1 : Kp (Below A w w1) := ⟨B0.out.trans (h2.mono (by have := R0.out.lt; omega))⟩
  clear h2 R0 Y0 B0 IH1
  have HC1 := Kp.mk (cells49 S1.out)
  have HZ1 := Kp.mk (size50 S1.out)
  have HC2 := Kp.mk (cells49 S2.out)
  have HZ2 := Kp.mk (size50 S2.out)
  obtain ⟨W1, hW1⟩ : ∃ W1, W1 = (w1.alloc z49).setRow w1.heap.size (kv .u8 s1).toArray := ⟨_, rfl⟩
  have X1 : Kp (Below w1.heap.size w1 W1 ∧ Row W1 w1.heap.size 32 .u8 s1) := ⟨by rw [hW1]; exact ⟨Below.row (more (Below.refl _ _) z49) (Nat.le_refl _) _, Row.setRow (k := .u8) (l := fill 16 []) (Blk.new w1 z49) _⟩⟩
  have R2 := Kp.mk (R1.out.keep X1.out.1)
  have Y2 := Kp.mk (Y1.out.keep X1.out.1)
  have B2 : Kp (Below A w W1) := ⟨B1.out.trans (X1.out.1.mono (by have := R1.out.lt; omega))⟩
  go_wp2_with (refine wpList_store_row rfl 32 (.tmp 12) (.tmp 33) rfl w1.heap.size (kv .u8 s1).toArray rfl rfl 32 _ (Blk.new w1 z49) HC1.out HZ1.out (kv_all _ _) ?_; refine wpl_world (· = W1) hW1.symm ?_; clear hW1; intro W0 e0; rw [e0]; clear e0)
  refine (IH2.out W1 Y2.out).mono ?_
  rintro r w2 ⟨rfl, h2⟩
  have R3 := Kp.mk (R2.out.keep h2)
  have Y3 := Kp.mk (X1.out.2.keep h2)
  have B3 : Kp (Below A w w2) := ⟨B2.out.trans (h2.mono (by have := R2.out.lt; omega))⟩
  clear h2 R1 Y1 B1 R2 Y2 B2 X1 IH2
  obtain ⟨W2, hW2⟩ : ∃ W2, W2 = (w2.alloc z49).setRow w2.heap.size (kv .u8 s2).toArray := ⟨_, rfl⟩
  have X2 : Kp (Below w2.heap.size w2 W2 ∧ Row W2 w2.heap.size 32 .u8 s2) := ⟨by rw [hW2]; exact ⟨Below.row (more (Below.refl _ _) z49) (Nat.le_refl _) _, Row.setRow (k := .u8) (l := fill 16 []) (Blk.new w2 z49) _⟩⟩
  have R4 := Kp.mk (R3.out.keep X2.out.1)
  have Y4 := Kp.mk (Y3.out.keep X2.out.1)
  have B4 : Kp (Below A w W2) := ⟨B3.out.trans (X2.out.1.mono (by have := R3.out.lt; omega))⟩
  go_wp2_with (first
    | (refine wpList_store_row rfl 32 (.tmp 14) (.tmp 45) rfl w2.heap.size (kv .u8 s2).toArray rfl rfl 32 _ (Blk.new w2 z49) HC2.out HZ2.out (kv_all _ _) ?_; refine wpl_world (· = W2) hW2.symm ?_; clear hW2; intro W0 e0; rw [e0]; clear e0)
    | (refine wpList_load_row rfl 32 (.tmp 12) rfl w1.heap.size rfl 32 (kv .u8 s1).toArray (0, 0) _ Y4.out Tryd.underlying32 rfl HC1.out ?_)
    | (refine wpList_load_row rfl 32 (.tmp 14) rfl w2.heap.size rfl 32 (kv .u8 s2).toArray (0, 0) _ X2.out.2 Tryd.underlying32 rfl HC2.out ?_))
  refine (rtextG_any d e (1) s1 s2 W2 HE.out S1.out SB1.out S2.out SB2.out).mono ?_
  rintro r w3 ⟨vt, rfl, h1, -, h2⟩
  obtain ⟨ta, tn, tc, rfl, -⟩ := h1.slice
  have V5 := Kp.mk h1
  have R5 := Kp.mk (R4.out.keep h2)
  have B5 : Kp (Below A w w3) := ⟨B4.out.trans (h2.mono (by have := R4.out.lt; omega))⟩
  clear h1 h2 R3 Y3 B3 R4 Y4 B4 X2
  obtain ⟨E, hE⟩ : ∃ E, E = w3.heap.size := ⟨_, rfl⟩
  rw [← hE] at V5
  have HEe := Kp.mk hE
  have HAE : Kp (A < E) := ⟨by have := R5.out.lt; omega⟩
  clear hE
  go_wp2_with (at_builtin; refine wpList_append_nils rfl _ _ rfl rfl rfl ?_)
  have ZR : Kp (RowT w3 E E (.slice none 0 0) []) := ⟨RowT.nil _ _ _⟩
  refine (of_any _ _ 71 _ w3 V5.out (by simp [atL, be32_len, S1.out, S2.out])).mono ?_
  rintro r w6 ⟨rfl, h5⟩
  have V8 := Kp.mk (V5.out.keep h5)
  have R8 := Kp.mk (R5.out.keep h5)
  have Z8 := Kp.mk (ZR.out.below h5)
  have B8 : Kp (Below A w w6) := ⟨B5.out.trans (h5.mono (by have := R5.out.lt; omega))⟩
  have S8 : Kp (E ≤ w6.heap.size) := ⟨by rw [HEe.out]; exact h5.size⟩
  clear h5 V5 R5 ZR B5
  rw [show dgV (shortL (71 :: _)) = dgV (shortL (aboveT d e (1) s1 s2)) from rfl, ← HNS.out]
  have HZl : Kp (NS.length = 16) := ⟨by rw [HNS.out]; exact shortL_len _⟩
  have HT9 := Kp.mk (texts_one V8.out)
  have Z9 : Kp (RowT (w6.alloc (.cells #[.slice ta tn tc] 22)) E E (.slice none 0 0) []) := ⟨Z8.out.below (more (Below.refl _ _) _)⟩
  have R9 := Kp.mk (R8.out.alloc (.cells #[.slice ta tn tc] 22))
  have B9 : Kp (Below A w (w6.alloc (.cells #[.slice ta tn tc] 22))) := ⟨B8.out.alloc (by have := R8.out.lt; omega) _⟩
  have S9 : Kp (E ≤ (w6.alloc (.cells #[.slice ta tn tc] 22)).heap.size) := ⟨by have := S8.out; simp; omega⟩
  clear V8 R8 Z8 B8 S8
  have HC := Kp.mk (cells49 HZl.out)
  have HZZ := Kp.mk (size50 HZl.out)
  go_wp2_with (at_builtin; refine wpList_append_texts rfl _ _ rfl E _ E _ [] [aboveT d e (1) s1 s2] rfl Z9.out (Nat.le_refl _) _ rfl HT9.out (by simp) ?e0 ?e1 ?_)
  case e0 => simp
  case e1 => exact S9.out
  intro vc w7 h1 h2
  rw [HX0.out] at h1
  obtain ⟨ac, cc, rfl⟩ := h1.slice
  have HH := Kp.mk (h1.holds (Nat.le_trans S9.out h2.size))
  have R10 := Kp.mk (R9.out.upto h2 HAE.out)
  have B10 : Kp (Below A w w7) := ⟨B9.out.trans (h2.mono (by have := HAE.out; omega))⟩
  clear h1 h2 HT9 Z9 R9 B9 S9
  have HF := Kp.mk (R10.out.setRow NS)
  have HBf := Kp.mk (Below.row B10.out (g := A) (by omega) (kv .u8 NS).toArray)
  have HHo := Kp.mk (HH.out.other (kv .u8 NS).toArray R10.out F1.out)
  go_wp2_with (refine wpList_store_row rfl 32 (.tmp 10) (.tmp 60) rfl A (kv .u8 NS).toArray rfl rfl 32 _ R10.out HC.out HZZ.out (kv_all _ _) ?_)
  refine bodyPost_ret (v := .tuple #[dgV NS, .slice ac NT.length cc]) ?_ rfl ⟨_, by rw [HNSe.out], by rw [← HNTe.out]; exact HHo.out, by rw [← HA.out]; exact HBf.out⟩
  exact results_row_tmp rfl _ _ A 32 _ (0, 0) _ _ rfl rfl HF.out Tryd.underlying32 rfl HC.out
set_option maxRecDepth 100000 in
set_option maxHeartbeats 4000000 in
theorem rnodeG_step (d e : Int) (a : Option Addr) (n cap : Nat) (L : List Int) (he : 0 ≤ e ∧ e < 4294967296) (hn : n ≤ 64) (hLl : L.length = n * 16) (hLb : Bytes L) (k : Nat) (hk0 : 1 ≤ k) (hk : k ≤ 5)
    (ih : ∀ (q : Nat) (p : Int) (w : World), p = (q : Nat) → k ≤ 6 → (q + 1) * 2 ^ k ≤ n → HoldsS w (.slice a n cap) n L → Calls Tryd.prog 75 #[.int .i64 d, .int .u32 e, .slice a n cap, .int .i64 k, .int .i64 p] w fun r w' => ∃ v', r = .returned (.tuple #[dgV (nodeG d e L k q), v']) ∧ HoldsP w' v' (nodeGT d e L k q) ∧ Below w.heap.size w w')
    (q : Nat) (p : Int) (w : World) (hp : p = (q : Nat)) (hq : (q + 1) * 2 ^ (k + 1) ≤ n) (hh : HoldsS w (.slice a n cap) n L) :
    Calls Tryd.prog 75 #[.int .i64 d, .int .u32 e, .slice a n cap, .int .i64 ((k : Int) + 1), .int .i64 p] w fun r w' => ∃ v', r = .returned (.tuple #[dgV (nodeG d e L (k + 1) q), v']) ∧ HoldsP w' v' (nodeGT d e L (k + 1) q) ∧ Below w.heap.size w w' := by
  have hpos : q + 1 ≤ 64 := by
    have h1 : q + 1 ≤ (q + 1) * 2 ^ (k + 1) := Nat.le_mul_of_pos_right _ (Nat.pow_pos (by decide))
    omega
  have h2 : (q + 1) * 2 ^ (k + 1) = (2 * q + 1 + 1) * 2 ^ k := by
    rw [Nat.pow_succ]
    generalize 2 ^ k = P
    rw [Nat.mul_comm P 2, ← Nat.mul_assoc]
    congr 1
    omega
  have hq2 : (2 * q + 1 + 1) * 2 ^ k ≤ n := by rw [← h2]; exact hq
  have hq1 : (2 * q + 1) * 2 ^ k ≤ n := Nat.le_trans (Nat.mul_le_mul_right _ (by omega)) hq2
  have HE := Kp.mk he
  have HP := Kp.mk hp
  have HLl := Kp.mk hLl
  have HLb := Kp.mk hLb
  have hp0 : 0 ≤ p := by omega
  have hp63 : p ≤ 63 := by omega
  have e1 : 2 * p = ((2 * q : Nat) : Int) := by omega
  have e2 : 2 * p + 1 = ((2 * q + 1 : Nat) : Int) := by omega
  have IH1 : Kp (∀ wx, HoldsS wx (.slice a n cap) n L → Calls Tryd.prog 75 #[.int .i64 d, .int .u32 e, .slice a n cap, .int .i64 k, .int .i64 (2 * p)] wx fun r w' => ∃ v', r = .returned (.tuple #[dgV (nodeG d e L k (2 * q)), v']) ∧ HoldsP w' v' (nodeGT d e L k (2 * q)) ∧ Below wx.heap.size wx w') := ⟨fun wx hh => ih (2 * q) (2 * p) wx e1 (by omega) hq1 hh⟩
  have IH2 : Kp (∀ wx, HoldsS wx (.slice a n cap) n L → Calls Tryd.prog 75 #[.int .i64 d, .int .u32 e, .slice a n cap, .int .i64 k, .int .i64 (2 * p + 1)] wx fun r w' => ∃ v', r = .returned (.tuple #[dgV (nodeG d e L k (2 * q + 1)), v']) ∧ HoldsP w' v' (nodeGT d e L k (2 * q + 1)) ∧ Below wx.heap.size wx w') := ⟨fun wx hh => ih (2 * q + 1) (2 * p + 1) wx e2 (by omega) hq2 hh⟩
  have S1 := Kp.mk (nodeG_len (d := d) (e := e) hLl k (2 * q) hq1)
  have SB1 := Kp.mk (nodeG_bytes (d := d) (e := e) hLb k (2 * q))
  have S2 := Kp.mk (nodeG_len (d := d) (e := e) hLl k (2 * q + 1) hq2)
  have SB2 := Kp.mk (nodeG_bytes (d := d) (e := e) hLb k (2 * q + 1))
  have HNS : Kp (nodeG d e L (k + 1) q = shortL (aboveT d e ((k : Int) + 1) (nodeG d e L k (2 * q)) (nodeG d e L k (2 * q + 1)))) := ⟨rfl⟩
  have HNT : Kp (nodeGT d e L (k + 1) q = (nodeGT d e L k (2 * q) ++ nodeGT d e L k (2 * q + 1)) ++ [aboveT d e ((k : Int) + 1) (nodeG d e L k (2 * q)) (nodeG d e L k (2 * q + 1))]) := ⟨rfl⟩
  have N1 := Kp.mk (nodeGT_len d e L k (2 * q))
  have N2 := Kp.mk (nodeGT_len d e L k (2 * q + 1))
  have F1 := Kp.mk (nodeGT_first d e L (k + 1) q)
  obtain ⟨NS, hNS⟩ : ∃ NS, NS = nodeG d e L (k + 1) q := ⟨_, rfl⟩
  obtain ⟨NT, hNT⟩ : ∃ NT, NT = nodeGT d e L (k + 1) q := ⟨_, rfl⟩
  rw [← hNS] at HNS
  rw [← hNT] at HNT F1
  have HNSe := Kp.mk hNS
  have HNTe := Kp.mk hNT
  clear hNS hNT
  have HY := Kp.mk hh
  have HN64 := Kp.mk hn
  clear he hp hLl hLb e1 e2 hq1 hq2 h2 hq hpos hh hn ih
  generalize nodeG d e L k (2 * q) = s1 at *
  generalize nodeG d e L k (2 * q + 1) = s2 at *
  generalize nodeGT d e L k (2 * q) = t1 at *
  generalize nodeGT d e L k (2 * q + 1) = t2 at *
  have t0 : ((k : Int) + 1 == 0) = false := by rw [beq_eq_false_iff_ne]; omega
  have hpw : (2 : Nat) ^ k ≤ 64 ∧ 2 ≤ 2 ^ k := by
    rcases (show k = 1 ∨ k = 2 ∨ k = 3 ∨ k = 4 ∨ k = 5 by omega) with rfl | rfl | rfl | rfl | rfl <;> decide
  have L1 : Kp (0 < t1.length ∧ t1.length ≤ 63) := ⟨by rw [N1.out]; omega⟩
  have L2 : Kp (0 < t2.length ∧ t2.length ≤ 63) := ⟨by rw [N2.out]; omega⟩
  clear hpw
  go_enter Tryd.func75, Tryd.ntmps75
  go_wp2_with fail
  obtain ⟨A, hA⟩ : ∃ A, A = w.heap.size := ⟨_, rfl⟩
  have HA := Kp.mk hA
  rw [← hA]
  refine calls_world (fun W => Row W A 32 .u8 (fill 16 []) ∧ HoldsS W (.slice a n cap) n L ∧ Below A w W) ⟨Blk.newAt _ hA, HY.out.keep (more (Below.refl _ _) _), by rw [hA]; exact more (Below.refl _ _) _⟩ ?_
  clear hA
  rintro w0 ⟨q1, q2, q3⟩
  have R0 := Kp.mk q1
  have Y0 := Kp.mk q2
  have B0 := Kp.mk q3
  clear q1 q2 q3 HY
  refine (IH1.out w0 Y0.out).mono ?_
  rintro r w1 ⟨v1, rfl, h1, h2⟩
  have T1 := Kp.mk h1
  clear h1
  have R1 := Kp.mk (R0.out.keep h2)
  have Y1 := Kp.mk (Y0.out.keep h2)
  have B1 : Kp (Below A w w1) := ⟨B0.out.trans (h2.mono (by have := R0.out.lt; omega))⟩
  clear h2 R0 Y0 B0 IH1
  have HC1 := Kp.mk (cells49 S1.out)
  have HZ1 := Kp.mk (size50 S1.out)
  have HC2 := Kp.mk (cells49 S2.out)
  have HZ2 := Kp.mk (size50 S2.out)
  obtain ⟨W1, hW1⟩ : ∃ W1, W1 = (w1.alloc z49).setRow w1.heap.size (kv .u8 s1).toArray := ⟨_, rfl⟩
  have X1 : Kp (Below w1.heap.size w1 W1 ∧ Row W1 w1.heap.size 32 .u8 s1) := ⟨by rw [hW1]; exact ⟨Below.row (more (Below.refl _ _) z49) (Nat.le_refl _) _, Row.setRow (k := .u8) (l := fill 16 []) (Blk.new w1 z49) _⟩⟩
  have R2 := Kp.mk (R1.out.keep X1.out.1)
  have Y2 := Kp.mk (Y1.out.keep X1.out.1)
  have B2 : Kp (Below A w W1) := ⟨B1.out.trans (X1.out.1.mono (by have := R1.out.lt; omega))⟩
  have T2 := Kp.mk (T1.out.keep X1.out.1)
  go_wp2_with (refine wpList_store_row rfl 32 (.tmp 12) (.tmp 33) rfl w1.heap.size (kv .u8 s1).toArray rfl rfl 32 _ (Blk.new w1 z49) HC1.out HZ1.out (kv_all _ _) ?_; refine wpl_world (· = W1) hW1.symm ?_; clear hW1; intro W0 e0; rw [e0]; clear e0)
  refine (IH2.out W1 Y2.out).mono ?_
  rintro r w2 ⟨v2, rfl, h1, h2⟩
  have U2 := Kp.mk h1
  have T3 := Kp.mk (T2.out.keep h2)
  clear h1
  have R3 := Kp.mk (R2.out.keep h2)
  have Y3 := Kp.mk (X1.out.2.keep h2)
  have B3 : Kp (Below A w w2) := ⟨B2.out.trans (h2.mono (by have := R2.out.lt; omega))⟩
  clear h2 R1 Y1 B1 R2 Y2 B2 X1 IH2 T1 T2
  obtain ⟨W2, hW2⟩ : ∃ W2, W2 = (w2.alloc z49).setRow w2.heap.size (kv .u8 s2).toArray := ⟨_, rfl⟩
  have X2 : Kp (Below w2.heap.size w2 W2 ∧ Row W2 w2.heap.size 32 .u8 s2) := ⟨by rw [hW2]; exact ⟨Below.row (more (Below.refl _ _) z49) (Nat.le_refl _) _, Row.setRow (k := .u8) (l := fill 16 []) (Blk.new w2 z49) _⟩⟩
  have R4 := Kp.mk (R3.out.keep X2.out.1)
  have Y4 := Kp.mk (Y3.out.keep X2.out.1)
  have B4 : Kp (Below A w W2) := ⟨B3.out.trans (X2.out.1.mono (by have := R3.out.lt; omega))⟩
  have T4 := Kp.mk (T3.out.keep X2.out.1)
  have U4 := Kp.mk (U2.out.keep X2.out.1)
  go_wp2_with (first
    | (refine wpList_store_row rfl 32 (.tmp 14) (.tmp 45) rfl w2.heap.size (kv .u8 s2).toArray rfl rfl 32 _ (Blk.new w2 z49) HC2.out HZ2.out (kv_all _ _) ?_; refine wpl_world (· = W2) hW2.symm ?_; clear hW2; intro W0 e0; rw [e0]; clear e0)
    | (refine wpList_load_row rfl 32 (.tmp 12) rfl w1.heap.size rfl 32 (kv .u8 s1).toArray (0, 0) _ Y4.out Tryd.underlying32 rfl HC1.out ?_)
    | (refine wpList_load_row rfl 32 (.tmp 14) rfl w2.heap.size rfl 32 (kv .u8 s2).toArray (0, 0) _ X2.out.2 Tryd.underlying32 rfl HC2.out ?_))
  refine (rtextG_any d e ((k : Int) + 1) s1 s2 W2 HE.out S1.out SB1.out S2.out SB2.out).mono ?_
  rintro r w3 ⟨vt, rfl, h1, -, h2⟩
  obtain ⟨ta, tn, tc, rfl, -⟩ := h1.slice
  have V5 := Kp.mk h1
  have R5 := Kp.mk (R4.out.keep h2)
  have B5 : Kp (Below A w w3) := ⟨B4.out.trans (h2.mono (by have := R4.out.lt; omega))⟩
  have T5 := Kp.mk (T4.out.keep h2).texts
  have U5 := Kp.mk (U4.out.keep h2).texts
  clear T3 T4 U2 U4
  clear h1 h2 R3 Y3 B3 R4 Y4 B4 X2
  obtain ⟨E, hE⟩ : ∃ E, E = w3.heap.size := ⟨_, rfl⟩
  rw [← hE] at V5 T5 U5
  have HEe := Kp.mk hE
  have HAE : Kp (A < E) := ⟨by have := R5.out.lt; omega⟩
  clear hE
  go_wp2_with (at_builtin; refine wpList_append_texts rfl _ _ rfl E E E _ [] t1 rfl (RowT.nil _ _ _) (Nat.le_refl _) _ rfl T5.out L1.out.1 ?c0 ?c1 ?_)
  case c0 => have := L1.out.2; simp; omega
  case c1 => rw [HEe.out]; exact Nat.le_refl _
  intro va w4 h1 h2
  obtain ⟨aa, ca, rfl⟩ := h1.slice
  have V6 := Kp.mk (V5.out.upto h2 (Nat.le_refl _))
  have U6 := Kp.mk (U5.out.upto h2 (Nat.le_refl _) (Nat.le_refl _))
  have R6 := Kp.mk (R5.out.upto h2 HAE.out)
  have Z6 : Kp (RowT w4 E E (.slice aa t1.length ca) t1) := ⟨h1⟩
  have B6 : Kp (Below A w w4) := ⟨B5.out.trans (h2.mono (by have := HAE.out; omega))⟩
  have S6 : Kp (E ≤ w4.heap.size) := ⟨by have := h2.size; have := HEe.out; omega⟩
  clear h1 h2 V5 U5 T5 R5 B5
  obtain ⟨l1, hl1⟩ : ∃ l1, l1 = t1.length := ⟨_, rfl⟩
  rw [← hl1] at Z6
  rw [← hl1]
  have HL1 := Kp.mk hl1
  clear hl1
  go_wp2_with (at_builtin; refine wpList_append_texts rfl _ _ rfl E E E _ t1 t2 rfl Z6.out (Nat.le_refl _) _ rfl U6.out L2.out.1 ?d0 ?d1 ?_)
  case d0 => have := L1.out.2; have := L2.out.2; omega
  case d1 => exact S6.out
  intro vb w5 h1 h2
  obtain ⟨ab, cb, rfl⟩ := h1.slice
  have V7 := Kp.mk (V6.out.upto h2 (Nat.le_refl _))
  have R7 := Kp.mk (R6.out.upto h2 HAE.out)
  have Z7 := Kp.mk h1
  have B7 : Kp (Below A w w5) := ⟨B6.out.trans (h2.mono (by have := HAE.out; omega))⟩
  have S7 : Kp (E ≤ w5.heap.size) := ⟨Nat.le_trans S6.out h2.size⟩
  clear h1 h2 V6 U6 R6 Z6 B6 S6
  obtain ⟨l2, hl2⟩ : ∃ l2, l2 = (t1 ++ t2).length := ⟨_, rfl⟩
  rw [← hl2] at Z7
  rw [← hl2]
  have HL2 : Kp (l2 ≤ 126) := ⟨by rw [hl2, List.length_append]; have := L1.out.2; have := L2.out.2; omega⟩
  clear hl2
  go_wp2_with fail
  refine (of_any _ _ 71 _ w5 V7.out (by simp [atL, be32_len, S1.out, S2.out])).mono ?_
  rintro r w6 ⟨rfl, h5⟩
  have V8 := Kp.mk (V7.out.keep h5)
  have R8 := Kp.mk (R7.out.keep h5)
  have Z8 := Kp.mk (Z7.out.below h5)
  have B8 : Kp (Below A w w6) := ⟨B7.out.trans (h5.mono (by have := R7.out.lt; omega))⟩
  have S8 : Kp (E ≤ w6.heap.size) := ⟨Nat.le_trans S7.out h5.size⟩
  clear h5 V7 R7 Z7 B7 S7
  rw [show dgV (shortL (71 :: _)) = dgV (shortL (aboveT d e ((k : Int) + 1) s1 s2)) from rfl, ← HNS.out]
  have HZl : Kp (NS.length = 16) := ⟨by rw [HNS.out]; exact shortL_len _⟩
  have HT9 := Kp.mk (texts_one V8.out)
  have Z9 : Kp (RowT (w6.alloc (.cells #[.slice ta tn tc] 22)) E E (.slice ab l2 cb) (t1 ++ t2)) := ⟨Z8.out.below (more (Below.refl _ _) _)⟩
  have R9 := Kp.mk (R8.out.alloc (.cells #[.slice ta tn tc] 22))
  have B9 : Kp (Below A w (w6.alloc (.cells #[.slice ta tn tc] 22))) := ⟨B8.out.alloc (by have := R8.out.lt; omega) _⟩
  have S9 : Kp (E ≤ (w6.alloc (.cells #[.slice ta tn tc] 22)).heap.size) := ⟨by have := S8.out; simp; omega⟩
  clear V8 R8 Z8 B8 S8
  have HC := Kp.mk (cells49 HZl.out)
  have HZZ := Kp.mk (size50 HZl.out)
  go_wp2_with (at_builtin; refine wpList_append_texts rfl _ _ rfl E _ E _ (t1 ++ t2) [aboveT d e ((k : Int) + 1) s1 s2] rfl Z9.out (Nat.le_refl _) _ rfl HT9.out (by simp) ?e0 ?e1 ?_)
  case e0 => have := L1.out.2; have := L2.out.2; simp; omega
  case e1 => exact S9.out
  intro vc w7 h1 h2
  rw [← List.append_assoc, ← HNT.out] at h1
  obtain ⟨ac, cc, rfl⟩ := h1.slice
  have HH := Kp.mk (h1.holds (Nat.le_trans S9.out h2.size))
  have R10 := Kp.mk (R9.out.upto h2 HAE.out)
  have B10 : Kp (Below A w w7) := ⟨B9.out.trans (h2.mono (by have := HAE.out; omega))⟩
  clear h1 h2 HT9 Z9 R9 B9 S9
  have HF := Kp.mk (R10.out.setRow NS)
  have HBf := Kp.mk (Below.row B10.out (g := A) (by omega) (kv .u8 NS).toArray)
  have HHo := Kp.mk (HH.out.other (kv .u8 NS).toArray R10.out F1.out)
  go_wp2_with (refine wpList_store_row rfl 32 (.tmp 10) (.tmp 60) rfl A (kv .u8 NS).toArray rfl rfl 32 _ R10.out HC.out HZZ.out (kv_all _ _) ?_)
  refine bodyPost_ret (v := .tuple #[dgV NS, .slice ac NT.length cc]) ?_ rfl ⟨_, by rw [HNSe.out], by rw [← HNTe.out]; exact HHo.out, by rw [← HA.out]; exact HBf.out⟩
  exact results_row_tmp rfl _ _ A 32 _ (0, 0) _ _ rfl rfl HF.out Tryd.underlying32 rfl HC.out
theorem rnodeG_any (d e : Int) (a : Option Addr) (n cap : Nat) (L : List Int) (he : 0 ≤ e ∧ e < 4294967296) (hn : n ≤ 64) (hLl : L.length = n * 16) (hLb : Bytes L) (k : Nat) : ∀ (q : Nat) (p : Int) (w : World), p = (q : Nat) → k ≤ 6 → (q + 1) * 2 ^ k ≤ n → HoldsS w (.slice a n cap) n L →
    Calls Tryd.prog 75 #[.int .i64 d, .int .u32 e, .slice a n cap, .int .i64 k, .int .i64 p] w fun r w' => ∃ v', r = .returned (.tuple #[dgV (nodeG d e L k q), v']) ∧ HoldsP w' v' (nodeGT d e L k q) ∧ Below w.heap.size w w' := by
  induction k with
  | zero => exact fun q p w hp _ hq hh => (rnodeG_zero d e a n cap L q p w hp (by simpa using hq) hn hLl hLb hh).mono fun r w' ⟨h1, h2⟩ => ⟨_, h1, HoldsP.nil0 _, h2⟩
  | succ k ih =>
    intro q p w hp hk hq hh
    by_cases h0 : k = 0
    · subst h0
      exact rnodeG_one d e a n cap L q p w he hp hq hn hLl hLb hh
    · exact rnodeG_step d e a n cap L he hn hLl hLb k (by omega) (by omega) ih q p w hp hq hh
end Go.Proofs.YtahmioiefmheeaaDoor

namespace Go.Proofs.YtahmioiefmheeaaDoor
open Go.RowKit

set_option maxRecDepth 100000 in
set_option maxHeartbeats 1000000 in
theorem rheight_any (m : Int) (w : World) : Calls Tryd.prog 61 #[.int .i64 m] w fun r w' => ∃ h, r = .returned (.int .i64 h) ∧ w' = w ∧ ((∃ i : Nat, i < 7 ∧ m = 2 ^ i ∧ h = i) ∨ ((∀ i : Nat, i < 7 → m ≠ 2 ^ i) ∧ h = -1)) := by
  go_enter Tryd.func61, Tryd.ntmps61
  go_wp2_with fail
  go_loopw [3, 4] (fun c z wr => ∃ i q : Nat, i ≤ 6 ∧ c = .int .i64 i ∧ z = .int .i64 q ∧ Kp (q = 2 ^ i) ∧ wr = w ∧ Kp (∀ j : Nat, j < i → (2 : Int) ^ j < m)) (fun c _ _ => 6 - (intOf c).toNat)
  case atStart => exact ⟨0, 1, by omega, rfl, rfl, ⟨rfl⟩, rfl, ⟨fun j hj => by omega⟩⟩
  case round =>
    obtain ⟨i, q, hi, rfl, rfl, HQ, rfl, HM⟩ := hrel
    have hq64 : q ≤ 64 := by
      rw [HQ.out]
      have h2 : i = 0 ∨ i = 1 ∨ i = 2 ∨ i = 3 ∨ i = 4 ∨ i = 5 ∨ i = 6 := by omega
      rcases h2 with rfl | rfl | rfl | rfl | rfl | rfl | rfl <;> decide
    have HQi : Kp (((q : Nat) : Int) = 2 ^ i) := ⟨by rw [HQ.out]; simp⟩
    have HPow : Kp (∀ j : Nat, i < j → (q : Int) ≤ 2 ^ j) := ⟨fun j hj => by
      rw [HQi.out]
      have h1 : (2 : Nat) ^ i ≤ 2 ^ j := Nat.pow_le_pow_right (by decide) (by omega)
      have h2 : ((2 ^ i : Nat) : Int) ≤ ((2 ^ j : Nat) : Int) := by omega
      simpa using h2⟩
    by_cases h1 : (q : Int) < m
    · by_cases h2 : i < 6
      · have HQ2 : Kp (2 * q = 2 ^ (i + 1)) := ⟨by rw [HQ.out, Nat.pow_succ, Nat.mul_comm]⟩
        have HM2 : Kp (∀ j : Nat, j < i + 1 → (2 : Int) ^ j < m) := ⟨fun j hj => by
          rcases Nat.lt_or_ge j i with h | h
          · exact HM.out j h
          · have : j = i := by omega
            subst this
            rw [← HQi.out]; exact h1⟩
        go_wp2_with fail
        exact ⟨⟨i + 1, 2 * q, by omega, by go_num, by go_num, HQ2, by trivial, HM2⟩, by simp [intOf]; omega⟩
      · have h3 : ¬ (i : Int) < 6 := by omega
        have t1 : ((q : Int) != m) = true := by simp; omega
        have HI : Kp (i = 6) := ⟨by omega⟩
        have HL : Kp ((q : Int) < m) := ⟨h1⟩
        clear h2 hi
        go_wp2_with fail
        go_ret
        refine ⟨_, rfl, rfl, .inr ⟨fun j hj => ?_, rfl⟩⟩
        rcases Nat.lt_or_ge j i with h | h
        · have := HM.out j h; omega
        · have h9 : j = i := by have := HI.out; omega
          subst h9
          have := HQi.out
          have := HL.out
          omega
    · by_cases h2 : (q : Int) = m
      · have t1 : ((q : Int) != m) = false := by simp [h2]
        have HE := Kp.mk h2
        have HI := Kp.mk hi
        clear h2
        go_wp2_with fail
        go_ret
        exact ⟨_, rfl, rfl, .inl ⟨i, by have := HI.out; omega, by rw [← HE.out, HQi.out], rfl⟩⟩
      · have t1 : ((q : Int) != m) = true := by simp; omega
        have HL : Kp (m < (q : Int)) := ⟨by omega⟩
        clear h2
        go_wp2_with fail
        go_ret
        refine ⟨_, rfl, rfl, .inr ⟨fun j hj => ?_, rfl⟩⟩
        have h8 := HL.out
        rcases Nat.lt_or_ge j i with h | h
        · have := HM.out j h; omega
        · rcases Nat.lt_or_ge i j with h9 | h9
          · have := HPow.out j h9; omega
          · have h9 : j = i := by omega
            subst h9
            have := HQi.out
            omega
theorem pow_inj7 {i k : Nat} (hi : i < 7) (hk : k < 7) (h : (2 : Int) ^ i = 2 ^ k) : i = k := by
  rcases (show i = 0 ∨ i = 1 ∨ i = 2 ∨ i = 3 ∨ i = 4 ∨ i = 5 ∨ i = 6 by omega) with rfl | rfl | rfl | rfl | rfl | rfl | rfl <;>
  rcases (show k = 0 ∨ k = 1 ∨ k = 2 ∨ k = 3 ∨ k = 4 ∨ k = 5 ∨ k = 6 by omega) with rfl | rfl | rfl | rfl | rfl | rfl | rfl <;> first | rfl | (exfalso; revert h; decide)
theorem rheight_pow (n k : Nat) (w : World) (hn : n = 2 ^ k) (hk : k ≤ 6) : Calls Tryd.prog 61 #[.int .i64 n] w fun r w' => r = .returned (.int .i64 k) ∧ w' = w := by
  have hN : ((n : Nat) : Int) = 2 ^ k := by rw [hn]; simp
  refine (rheight_any n w).mono ?_
  rintro r w' ⟨h, rfl, rfl, h2⟩
  rcases h2 with ⟨i, hi, e1, e2⟩ | ⟨hno, _⟩
  · have : i = k := pow_inj7 hi (by omega) (by rw [← e1, hN])
    subst this
    exact ⟨by rw [e2], rfl⟩
  · exact absurd hN (hno k (by omega))
set_option maxRecDepth 100000 in
set_option maxHeartbeats 4000000 in
theorem rpathG_any (d e : Int) (a : Option Addr) (n cap : Nat) (L : List Int) (k j : Nat) (w : World) (he : 0 ≤ e ∧ e < 4294967296) (hn : n = 2 ^ k) (hk : k ≤ 6) (hj : j < 2 ^ k) (hh : HoldsS w (.slice a n cap) n L) :
    Calls Tryd.prog 67 #[.int .i64 d, .int .u32 e, .slice a n cap, .int .i64 j] w fun r w' => ∃ v', r = .returned v' ∧ HoldsS w' v' k (pathG d e L k j) ∧ FreshS w w' v' ∧ Below w.heap.size w w' := by
  have hn64 : n ≤ 64 := by
    rw [hn]
    rcases (show k = 0 ∨ k = 1 ∨ k = 2 ∨ k = 3 ∨ k = 4 ∨ k = 5 ∨ k = 6 by omega) with rfl | rfl | rfl | rfl | rfl | rfl | rfl <;> decide
  have hj64 : j < 64 := by omega
  have HE := Kp.mk he
  have HN := Kp.mk hn
  have HN64 := Kp.mk hn64
  have HJ := Kp.mk hj
  have HY0 := Kp.mk hh
  have HLn : Kp (L.length = n * 16 ∧ Bytes L) := ⟨by obtain ⟨_, _, _, h1, _, h2, _⟩ := hh; exact ⟨h1, h2⟩⟩
  have HL2 : Kp (L.length = 2 ^ k * 16) := ⟨by rw [HLn.out.1, hn]⟩
  have HPl := Kp.mk (pathG_len (d := d) (e := e) HL2.out hj)
  have HPb := Kp.mk (pathG_bytes (d := d) (e := e) HLn.out.2 k j)
  obtain ⟨i0, hi, hz0, hz1, hz2⟩ := info_parts info32s
  obtain ⟨A, hA⟩ : ∃ A, A = w.heap.size := ⟨_, rfl⟩
  have HA := Kp.mk hA
  clear he hn hh hj hA
  go_enter Tryd.func67, Tryd.ntmps67
  go_wp2_with fail
  go_loopw [3, 9, 10] (fun s3 v c9 wr => ∃ l c : Nat, l ≤ k ∧ c9 = .int .i64 l ∧ s3 = .int .i64 c ∧ Kp (c = j / 2 ^ l) ∧ Kp (wr.ownsRow A 32 16 v l (bv ((pathG d e L k j).take (l * 16)))) ∧ Kp (HoldsS wr (.slice a n cap) n L) ∧ Kp (Below A w wr ∧ A ≤ wr.heap.size)) (fun _ _ c _ => k - (intOf c).toNat)
  case atStart => exact ⟨0, j, by omega, rfl, rfl, ⟨by simp⟩, ⟨World.ownsRow_nil _ _ _ _⟩, HY0, ⟨by rw [HA.out]; exact Below.refl _ _, by rw [HA.out]; exact Nat.le_refl _⟩⟩
  case round =>
    obtain ⟨l, c, hl, rfl, rfl, HC, G1, G2, G3⟩ := hrel
    have hc64 : c < 64 := by rw [HC.out]; exact Nat.lt_of_le_of_lt (Nat.div_le_self _ _) hj64
    have HCn : Kp (c / 2 = j / 2 ^ (l + 1)) := ⟨by rw [HC.out, Nat.pow_succ, Nat.div_div_eq_div_mul]⟩
    go_wp2_with fail
    refine (rheight_pow n k wr HN.out hk).mono ?_
    rintro r w1 ⟨rfl, e1⟩
    rw [e1]
    clear e1 w1
    by_cases hlt : l < k
    · have HBp : Kp ((besI j l + 1) * 2 ^ l ≤ n) := ⟨by rw [HN.out]; exact beside_pow HJ.out hlt⟩
      obtain ⟨s, hs⟩ : ∃ s, s = nodeG d e L l (besI j l) := ⟨_, rfl⟩
      have HSl : Kp (s.length = 16) := ⟨by rw [hs]; exact nodeG_len HLn.out.1 l _ HBp.out⟩
      have HX : Kp (bv ((pathG d e L k j).take (l * 16)) ++ bv s = bv ((pathG d e L k j).take ((l + 1) * 16))) := ⟨by rw [hs, ← pathG_seg HL2.out HJ.out hlt]; exact take16 _ _⟩
      have HSe : Kp (nodeG d e L l (besI j l) = s) := ⟨hs.symm⟩
      have hq2 : (c : Int).tdiv 2 = ((c / 2 : Nat) : Int) := by rw [Int.tdiv_eq_ediv_of_nonneg (by omega)]; omega
      generalize bv ((pathG d e L k j).take (l * 16)) = xs at G1 HX
      clear hs
      by_cases hpar : c % 2 = 1
      · have ht : (c : Int).tmod 2 = 1 := by rw [Int.tmod_eq_emod_of_nonneg (by omega)]; omega
        have HBs : Kp ((c : Int) - 1 = ((besI j l : Nat) : Int)) := ⟨by unfold besI; rw [← HC.out, if_pos hpar]; omega⟩
        go_wp2_with fail
        refine (rnodeG_any d e a n cap L HE.out HN64.out HLn.out.1 HLn.out.2 l (besI j l) ((c : Int) - 1) wr (by have := HBs.out; omega) (by omega) HBp.out G2.out).mono ?_
        rintro r w2 ⟨v2, rfl, -, hb⟩
        have F1 := Kp.mk (ownsRow_below G1.out hb)
        have F2 := Kp.mk (G2.out.keep hb)
        have F3 : Kp (Below A w w2 ∧ A ≤ w2.heap.size) := ⟨G3.out.1.trans (hb.mono G3.out.2), Nat.le_trans G3.out.2 hb.size⟩
        clear hb G1 G2 G3
        rw [HSe.out]
        obtain ⟨W3, hW3⟩ : ∃ W2, W2 = (w2.alloc z49).setRow w2.heap.size (kv .u8 s).toArray := ⟨_, rfl⟩
        have hb3 : Below w2.heap.size w2 W3 := by rw [hW3]; exact Below.row (more (Below.refl _ _) z49) (Nat.le_refl _) _
        have HG : Kp (Row W3 w2.heap.size 32 .u8 s) := ⟨by rw [hW3]; exact Row.setRow (k := .u8) (l := fill 16 []) (Blk.new w2 z49) _⟩
        have HROW := Kp.mk (ownsRow_below F1.out hb3)
        have HY := Kp.mk (F2.out.keep hb3)
        have HB : Kp (Below A w W3 ∧ A ≤ W3.heap.size) := ⟨F3.out.1.trans (hb3.mono F3.out.2), Nat.le_trans F3.out.2 hb3.size⟩
        have hbs := build65 HSl.out
        clear hb3 F1 F2 F3
        go_wp2_with (first
          | (refine wpList_store_row rfl 32 (.tmp 12) (.tmp 35) rfl w2.heap.size (kv .u8 s).toArray rfl rfl 32 _ (Blk.new w2 z49) (cells49 HSl.out) (size50 HSl.out) (kv_all _ _) ?_; refine wpl_world (· = W3) hW3.symm ?_; clear hW3; intro W0 e0; rw [e0]; clear e0)
          | (refine wpList_load_row rfl 32 (.tmp 12) rfl w2.heap.size rfl 32 _ (0, 0) _ HG.out Tryd.underlying32 rfl (cells49 HSl.out) ?_)
          | (refine wpList_buildSlice_one rfl 65 1 (.tmp 38) rfl (dgV s) rfl _ _ (hbs _) ?_)
          | (at_builtin; refine wpList_append_own _ rfl _ _ 65 rfl A 32 i0 _ 16 16 Tryd.underlying65 hi hz0 hz1 hz2 rfl (by decide) _ _ _ rfl (HROW.out.alloc _) ⟨W3.heap.size, 0, none⟩ 1 1 (bv s) rfl ?c0 (row_new _ _ _) ?c2 ?c3 ?c4 ?c5 ?_))
        case c0 => rw [bv_len, HSl.out]
        case c2 => exact bv_one _
        case c3 => unfold maxLen; omega
        case c4 => omega
        case c5 => have := HB.out.2; simp; omega
        · intro v' w4 hown' hgrow _
          have HB4 : Kp (Below A w w4) := ⟨below_row_grown (HB.out.1.alloc HB.out.2 _) (by have := HB.out.2; simp; omega) (HROW.out.alloc _) hgrow⟩
          have HB5 : Kp (A ≤ w4.heap.size) := ⟨Nat.le_trans HB.out.2 (Nat.le_trans (by simp) hgrow.size)⟩
          have HO4 := Kp.mk hown'
          have HY4 : Kp (HoldsS w4 (.slice a n cap) n L) := ⟨HY0.out.keep (by have := HB4.out; rwa [HA.out] at this)⟩
          clear hown' hgrow hbs HROW HY HB HG
          go_wp2_with fail
          exact ⟨⟨l + 1, c / 2, by omega, by go_num, by first | rfl | (congr 1; omega), HCn, ⟨by have := HO4.out; rw [HX.out] at this; exact this⟩, HY4, ⟨HB4.out, HB5.out⟩⟩, by simp [intOf]; omega⟩
      · have ht : (c : Int).tmod 2 = 0 := by rw [Int.tmod_eq_emod_of_nonneg (by omega)]; omega
        have HBs : Kp ((c : Int) + 1 = ((besI j l : Nat) : Int)) := ⟨by unfold besI; rw [← HC.out, if_neg hpar]; omega⟩
        go_wp2_with fail
        refine (rnodeG_any d e a n cap L HE.out HN64.out HLn.out.1 HLn.out.2 l (besI j l) ((c : Int) + 1) wr (by have := HBs.out; omega) (by omega) HBp.out G2.out).mono ?_
        rintro r w2 ⟨v2, rfl, -, hb⟩
        have F1 := Kp.mk (ownsRow_below G1.out hb)
        have F2 := Kp.mk (G2.out.keep hb)
        have F3 : Kp (Below A w w2 ∧ A ≤ w2.heap.size) := ⟨G3.out.1.trans (hb.mono G3.out.2), Nat.le_trans G3.out.2 hb.size⟩
        clear hb G1 G2 G3
        rw [HSe.out]
        obtain ⟨W3, hW3⟩ : ∃ W2, W2 = (w2.alloc z49).setRow w2.heap.size (kv .u8 s).toArray := ⟨_, rfl⟩
        have hb3 : Below w2.heap.size w2 W3 := by rw [hW3]; exact Below.row (more (Below.refl _ _) z49) (Nat.le_refl _) _
        have HG : Kp (Row W3 w2.heap.size 32 .u8 s) := ⟨by rw [hW3]; exact Row.setRow (k := .u8) (l := fill 16 []) (Blk.new w2 z49) _⟩
        have HROW := Kp.mk (ownsRow_below F1.out hb3)
        have HY := Kp.mk (F2.out.keep hb3)
        have HB : Kp (Below A w W3 ∧ A ≤ W3.heap.size) := ⟨F3.out.1.trans (hb3.mono F3.out.2), Nat.le_trans F3.out.2 hb3.size⟩
        have hbs := build65 HSl.out
        clear hb3 F1 F2 F3
        go_wp2_with (first
          | (refine wpList_store_row rfl 32 (.tmp 12) (.tmp 35) rfl w2.heap.size (kv .u8 s).toArray rfl rfl 32 _ (Blk.new w2 z49) (cells49 HSl.out) (size50 HSl.out) (kv_all _ _) ?_; refine wpl_world (· = W3) hW3.symm ?_; clear hW3; intro W0 e0; rw [e0]; clear e0)
          | (refine wpList_load_row rfl 32 (.tmp 12) rfl w2.heap.size rfl 32 _ (0, 0) _ HG.out Tryd.underlying32 rfl (cells49 HSl.out) ?_)
          | (refine wpList_buildSlice_one rfl 65 1 (.tmp 38) rfl (dgV s) rfl _ _ (hbs _) ?_)
          | (at_builtin; refine wpList_append_own _ rfl _ _ 65 rfl A 32 i0 _ 16 16 Tryd.underlying65 hi hz0 hz1 hz2 rfl (by decide) _ _ _ rfl (HROW.out.alloc _) ⟨W3.heap.size, 0, none⟩ 1 1 (bv s) rfl ?c0 (row_new _ _ _) ?c2 ?c3 ?c4 ?c5 ?_))
        case c0 => rw [bv_len, HSl.out]
        case c2 => exact bv_one _
        case c3 => unfold maxLen; omega
        case c4 => omega
        case c5 => have := HB.out.2; simp; omega
        · intro v' w4 hown' hgrow _
          have HB4 : Kp (Below A w w4) := ⟨below_row_grown (HB.out.1.alloc HB.out.2 _) (by have := HB.out.2; simp; omega) (HROW.out.alloc _) hgrow⟩
          have HB5 : Kp (A ≤ w4.heap.size) := ⟨Nat.le_trans HB.out.2 (Nat.le_trans (by simp) hgrow.size)⟩
          have HO4 := Kp.mk hown'
          have HY4 : Kp (HoldsS w4 (.slice a n cap) n L) := ⟨HY0.out.keep (by have := HB4.out; rwa [HA.out] at this)⟩
          clear hown' hgrow hbs HROW HY HB HG
          go_wp2_with fail
          exact ⟨⟨l + 1, c / 2, by omega, by go_num, by first | rfl | (congr 1; omega), HCn, ⟨by have := HO4.out; rw [HX.out] at this; exact this⟩, HY4, ⟨HB4.out, HB5.out⟩⟩, by simp [intOf]; omega⟩
    · have hl' : l = k := by omega
      subst hl'
      have G1' := Kp.mk G1.out
      rw [List.take_of_length_le (by rw [HPl.out]; exact Nat.le_refl _)] at G1'
      go_wp2_with fail
      go_ret
      refine ⟨_, rfl, HoldsS.ofRow HPb.out (by unfold maxLen; omega) HPl.out G1'.out, ?_, by rw [← HA.out]; exact G3.out.1⟩
      intro x n' c' ev
      have ev' : u9 = .slice (some x) n' c' := ev
      have h := G1'.out.lt x.block (by rw [ev']; rfl)
      exact ⟨by rw [← HA.out]; exact h.1, h.2⟩
set_option maxRecDepth 100000 in
set_option maxHeartbeats 2000000 in
theorem rrootG_any (d e : Int) (a : Option Addr) (n cap : Nat) (L : List Int) (k : Nat) (w : World) (he : 0 ≤ e ∧ e < 4294967296) (hn : n = 2 ^ k) (hk : k ≤ 6) (hh : HoldsS w (.slice a n cap) n L) :
    Calls Tryd.prog 64 #[.int .i64 d, .int .u32 e, .slice a n cap] w fun r w' => r = .returned (dgV (nodeG d e L k 0)) ∧ Below w.heap.size w w' := by
  have hn64 : n ≤ 64 := by
    rw [hn]
    rcases (show k = 0 ∨ k = 1 ∨ k = 2 ∨ k = 3 ∨ k = 4 ∨ k = 5 ∨ k = 6 by omega) with rfl | rfl | rfl | rfl | rfl | rfl | rfl <;> decide
  have HE := Kp.mk he
  have HN := Kp.mk hn
  have HN64 := Kp.mk hn64
  have HK6 := Kp.mk hk
  have HY0 := Kp.mk hh
  have HLn : Kp (L.length = n * 16 ∧ Bytes L) := ⟨by obtain ⟨_, _, _, h1, _, h2, _⟩ := hh; exact ⟨h1, h2⟩⟩
  have HR0 : Kp ((0 + 1) * 2 ^ k ≤ n) := ⟨by rw [hn]; omega⟩
  have HSl := Kp.mk (nodeG_len (d := d) (e := e) HLn.out.1 k 0 HR0.out)
  obtain ⟨A, hA⟩ : ∃ A, A = w.heap.size := ⟨_, rfl⟩
  have HA := Kp.mk hA
  clear he hn hh hn64 hk
  go_enter Tryd.func64, Tryd.ntmps64
  go_wp2_with fail
  rw [← hA]
  refine calls_world (fun W => Row W A 32 .u8 (fill 16 []) ∧ HoldsS W (.slice a n cap) n L ∧ Below A w W) ⟨Blk.newAt _ hA, HY0.out.keep (more (Below.refl _ _) _), by rw [hA]; exact more (Below.refl _ _) _⟩ ?_
  clear hA
  rintro W ⟨q1, q2, q3⟩
  have R0 := Kp.mk q1
  have Y0 := Kp.mk q2
  have B0 := Kp.mk q3
  clear q1 q2 q3
  refine (rheight_pow n k W HN.out HK6.out).mono ?_
  rintro r w1 ⟨rfl, e1⟩
  rw [e1]
  clear e1 w1
  go_wp2_with fail
  refine (rnodeG_any d e a n cap L HE.out HN64.out HLn.out.1 HLn.out.2 k 0 0 W rfl HK6.out HR0.out Y0.out).mono ?_
  rintro r w2 ⟨v2, rfl, -, hb⟩
  have R1 := Kp.mk (R0.out.keep hb)
  have B1 : Kp (Below A w w2) := ⟨B0.out.trans (hb.mono (Nat.le_of_lt R0.out.lt))⟩
  clear hb R0 Y0 B0
  obtain ⟨s, hs⟩ : ∃ s, s = nodeG d e L k 0 := ⟨_, rfl⟩
  rw [← hs] at HSl
  rw [← hs]
  have HSe := Kp.mk hs
  clear hs
  obtain ⟨W3, hW3⟩ : ∃ W2, W2 = (w2.alloc z49).setRow w2.heap.size (kv .u8 s).toArray := ⟨_, rfl⟩
  have hb3 : Below w2.heap.size w2 W3 := by rw [hW3]; exact Below.row (more (Below.refl _ _) z49) (Nat.le_refl _) _
  have HG : Kp (Row W3 w2.heap.size 32 .u8 s) := ⟨by rw [hW3]; exact Row.setRow (k := .u8) (l := fill 16 []) (Blk.new w2 z49) _⟩
  have R3 := Kp.mk (R1.out.keep hb3)
  have B3 : Kp (Below A w W3) := ⟨B1.out.trans (hb3.mono (Nat.le_of_lt R1.out.lt))⟩
  clear hb3
  have HF := Kp.mk (R3.out.setRow s)
  have HBf := Kp.mk (Below.row B3.out (g := A) (Nat.le_refl _) (kv .u8 s).toArray)
  go_wp2_with (first
    | (refine wpList_store_row rfl 32 (.tmp 7) (.tmp 17) rfl w2.heap.size (kv .u8 s).toArray rfl rfl 32 _ (Blk.new w2 z49) (cells49 HSl.out) (size50 HSl.out) (kv_all _ _) ?_; refine wpl_world (· = W3) hW3.symm ?_; clear hW3; intro W0 e0; rw [e0]; clear e0)
    | (refine wpList_load_row rfl 32 (.tmp 7) rfl w2.heap.size rfl 32 _ (0, 0) _ HG.out Tryd.underlying32 rfl (cells49 HSl.out) ?_)
    | (refine wpList_store_row rfl 32 (.tmp 6) (.tmp 19) rfl A (kv .u8 s).toArray rfl rfl 32 _ R3.out (cells49 HSl.out) (size50 HSl.out) (kv_all _ _) ?_))
  refine bodyPost_ret (v := dgV s) ?_ rfl ⟨by rw [HSe.out], by rw [← HA.out]; exact HBf.out⟩
  exact results_cell_row rfl _ _ A 32 _ (0, 0) _ rfl HF.out Tryd.underlying32 rfl (cells49 HSl.out)
def CutPost (a : Option Addr) (n : Nat) (w : World) (r : Ending) (w' : World) : Prop := ∃ a' q cap' L' k, r = .returned (.slice a' q cap') ∧ Kp (q = 2 ^ k) ∧ k ≤ 4 ∧ HoldsS w' (.slice a' q cap') q L' ∧ Kp ((a' = a ∧ 0 < n) ∨ ∀ x, a' = some x → w.heap.size ≤ x.block) ∧ Below w.heap.size w w'
set_option maxRecDepth 100000 in
set_option maxHeartbeats 2000000 in
theorem cut_any (a : Option Addr) (n cap : Nat) (L : List Int) (w : World) (hh : HoldsS w (.slice a n cap) n L) (hc1 : n ≤ cap) (hc2 : cap ≤ 9223372036854775807) :
    Calls Tryd.prog 74 #[.slice a n cap] w (CutPost a n w) := by
  have HY := Kp.mk hh
  clear hh
  go_enter Tryd.func74, Tryd.ntmps74
  go_wp2_with fail
  go_loopw [3] (fun c wr => ∃ k q : Nat, k ≤ 4 ∧ c = .int .i64 q ∧ Kp (q = 2 ^ k) ∧ wr = w ∧ (q ≤ n ∨ q = 1)) (fun c _ => 16 - (intOf c).toNat)
  case atStart => exact ⟨0, 1, by omega, rfl, ⟨rfl⟩, rfl, .inr rfl⟩
  case round =>
    obtain ⟨k, q, hk, rfl, HQ, rfl, hq⟩ := hrel
    have hq16 : q ≤ 16 ∧ 1 ≤ q ∧ (q < 16 → k < 4) := by
      rw [HQ.out]
      rcases (show k = 0 ∨ k = 1 ∨ k = 2 ∨ k = 3 ∨ k = 4 by omega) with rfl | rfl | rfl | rfl | rfl <;> decide
    by_cases h1 : q < 16 ∧ 2 * q ≤ n
    · have HQ2 : Kp (2 * q = 2 ^ (k + 1)) := ⟨by rw [HQ.out, Nat.pow_succ, Nat.mul_comm]⟩
      have h2 : (q : Int) < 16 := by omega
      have h3 : 2 * (q : Int) ≤ (n : Int) := by omega
      go_wp2_with fail
      exact ⟨⟨k + 1, 2 * q, by omega, by go_num, HQ2, by trivial, by omega⟩, by simp [intOf]; omega⟩
    · by_cases hn0 : n = 0
      · subst hn0
        have h4 : q = 1 := by omega
        have HK0 : Kp (k = 0) := ⟨by have h5 := HQ.out; rw [h4] at h5; rcases (show k = 0 ∨ k = 1 ∨ k = 2 ∨ k = 3 ∨ k = 4 by omega) with rfl | rfl | rfl | rfl | rfl <;> first | rfl | (revert h5; decide)⟩
        subst h4
        go_wp2_with fail
        go_ret
        refine ⟨_, 1, _, fill 16 [], 0, rfl, ⟨rfl⟩, by omega, HoldsS.row (C := wr.heap.size) (t := 32) (Blk.newAt _ rfl) rfl (fill_bytes (fun x hx => by simp at hx)) (by omega), ⟨.inr fun x hx => by simp at hx; rw [← hx]; exact Nat.le_refl _⟩, more (Below.refl _ _) _⟩
      · have HQn : Kp (q ≤ n) := ⟨by omega⟩
        have hqn := HQn.out
        have tn : ((n : Int) == 0) = false := by simp; omega
        by_cases h2 : q < 16
        · have h3 : (q : Int) < 16 := by omega
          have h4 : ¬ 2 * (q : Int) ≤ (n : Int) := by omega
          have HY2 := Kp.mk (HY.out.front (k := q) hqn)
          clear h1 hq
          go_wp2_with fail
          go_ret
          exact ⟨_, q, _, _, k, rfl, HQ, hk, HY2.out, ⟨.inl ⟨rfl, by omega⟩⟩, Below.refl _ _⟩
        · have h3 : ¬ (q : Int) < 16 := by omega
          have HY2 := Kp.mk (HY.out.front (k := q) hqn)
          clear h1 hq
          go_wp2_with fail
          go_ret
          exact ⟨_, q, _, _, k, rfl, HQ, hk, HY2.out, ⟨.inl ⟨rfl, by omega⟩⟩, Below.refl _ _⟩
end Go.Proofs.YtahmioiefmheeaaDoor

namespace Go.Proofs.YtahmioiefmheeaaDoor
open Go.RowKit

theorem segL_le (p : List Int) (j : Nat) : (segL p j).length ≤ 16 := by unfold segL; rw [List.length_take]; omega
theorem nodeG_le (d e : Int) (L : List Int) : ∀ (v q : Nat), (nodeG d e L v q).length ≤ 16
  | 0, q => segL_le L q
  | v + 1, q => by rw [nodeG, shortL_len]; omega
theorem aboveT_len (d e v : Int) (x y : List Int) : (aboveT d e v x y).length = 7 + x.length + y.length := by
  simp only [aboveT, atL, List.length_cons, List.length_append, be32_len, List.length_nil]
  omega
theorem nodeGT_le (d e : Int) (L : List Int) : ∀ (v q : Nat), ∀ t ∈ nodeGT d e L v q, 0 < t.length ∧ t.length ≤ 39
  | 0, q, t, ht => by simp [nodeGT] at ht
  | v + 1, q, t, ht => by
    simp only [nodeGT, List.mem_append, List.mem_singleton] at ht
    rcases ht with (h | h) | h
    · exact nodeGT_le d e L v _ t h
    · exact nodeGT_le d e L v _ t h
    · subst h
      rw [aboveT_len]
      have h1 := nodeG_le d e L v (2 * q)
      have h2 := nodeG_le d e L v (2 * q + 1)
      omega
theorem cons_of {t : List Int} (h : 0 < t.length ∧ t.length ≤ 39) : ∃ k l, t = k :: l ∧ l.length ≤ 1000000 := by
  cases t with
  | nil => simp at h
  | cons k l => exact ⟨k, l, rfl, by have := h.2; simp at this; omega⟩
theorem nodeGT_cons (d e : Int) (L : List Int) (v q : Nat) : ∀ i, i < (nodeGT d e L v q).length → ∃ k l, (nodeGT d e L v q).getD i [] = k :: l ∧ l.length ≤ 1000000 := fun i hi => by
  have hm : (nodeGT d e L v q).getD i [] ∈ nodeGT d e L v q := by rw [List.getD_eq_getElem?_getD, List.getElem?_eq_getElem hi]; exact List.getElem_mem hi
  exact cons_of (nodeGT_le d e L v q _ hm)
theorem foldT_cons (d e : Int) (x : List Int) (i : Int) (p : List Int) (n : Nat) (hx : x.length = 16) : ∀ l, l < (foldT d e x i p n).length → ∃ k t, (foldT d e x i p n).getD l [] = k :: t ∧ t.length ≤ 1000000 := fun l hl => by
  unfold foldT at hl ⊢
  split at hl
  · rename_i hok
    rw [if_pos hok]
    rw [foldTL_len] at hl
    rw [foldTL_at _ _ _ _ _ _ _ hl]
    have h1 := segL_le p l
    have h2 := foldL_len d e x i.toNat p hx l
    split <;> exact cons_of (by rw [aboveT_len]; omega)
  · simp at hl
theorem foldT_small (d e : Int) (x : List Int) (i : Int) (p : List Int) (n : Nat) : (foldT d e x i p n).length ≤ 100 := by
  unfold foldT
  split
  · rename_i hok
    rw [foldTL_len]
    simp [foldOk] at hok
    omega
  · simp
theorem nodeGT_small (d e : Int) (L : List Int) (v q : Nat) (hv : v ≤ 6) : (nodeGT d e L v q).length ≤ 100 := by
  rw [nodeGT_len]
  rcases (show v = 0 ∨ v = 1 ∨ v = 2 ∨ v = 3 ∨ v = 4 ∨ v = 5 ∨ v = 6 by omega) with rfl | rfl | rfl | rfl | rfl | rfl | rfl <;> decide
theorem checkB_true {d e : Int} {k j n : Nat} {r x p : List Int} (h : checkB d e k r j x p n = true) : n = k ∧ foldOk j n = true ∧ foldL d e x j p n = r := by
  unfold checkB at h
  simp only [Bool.and_eq_true, decide_eq_true_eq] at h
  obtain ⟨⟨h1, h2⟩, h3⟩ := h
  refine ⟨by omega, h1, ?_⟩
  unfold foldS at h3
  rw [if_pos h1] at h3
  simpa using h3
theorem foldOk_pow {j k : Nat} (hk : k ≤ 6) (hj : j < 2 ^ k) : foldOk j k = true := by
  have h2 : ((2 ^ k : Nat) : Int) = (2 : Int) ^ k := by simp
  have h3 : (j : Int) < (2 : Int) ^ k := by rw [← h2]; omega
  simp [foldOk]
  omega
/-- What the tree itself shows is taken. -/
theorem checkB_own {d e : Int} {L : List Int} {k j : Nat} (hL : L.length = 2 ^ k * 16) (hk : k ≤ 6) (hj : j < 2 ^ k) : checkB d e k (nodeG d e L k 0) j (segL L j) (pathG d e L k j) k = true := by
  have h1 := foldOk_pow hk hj
  have h2 := foldL_path (d := d) (e := e) hL hj k (Nat.le_refl _)
  rw [Nat.div_eq_of_lt hj] at h2
  unfold checkB foldS
  rw [h1, if_pos rfl]
  simp [h2]
/-- A check that is passed by something else: two unlike texts have one sum. -/
theorem checkB_clash {d e : Int} {L : List Int} {k j n : Nat} {x p : List Int} (hL : L.length = 2 ^ k * 16) (hx : x.length = 16) (hp : p.length = n * 16) (hj : j < 2 ^ k) (h : checkB d e k (nodeG d e L k 0) j x p n = true) (hne : ¬ (x = segL L j ∧ p = pathG d e L k j)) :
    ClashP (nodeGT d e L k 0) (foldT d e x j p n) := by
  obtain ⟨rfl, h1, h2⟩ := checkB_true h
  have h3 : foldT d e x j p n = foldTL d e x j p n := by unfold foldT; rw [if_pos h1]; simp
  rw [h3]
  rcases grove_sound d e L x n j p hL hx hp hj h2 with g | g
  · exact absurd g hne
  · exact g
end Go.Proofs.YtahmioiefmheeaaDoor
