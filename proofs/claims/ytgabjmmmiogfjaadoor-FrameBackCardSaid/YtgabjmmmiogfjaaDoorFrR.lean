/-
  mac.Equal, mac.Same (FrameOpens).
-/
import Derived.Test.YtgabjmmmiogfjaaDoorFrQ
import Derived.Laws.BitsLemmas
import Derived.Laws.Closers25b
namespace Go.Proofs.YtgabjmmmiogfjaaDoor
open Go.RowKit

theorem hold16 {w : World} {A : Nat} {x : List Int} (h : Row w A 83 .u8 x) (hl : x.length = 16) (hb : Bytes x) : HoldsB w w.heap.size (.slice (some ⟨A, 0, none⟩) 16 16) x := by
  have := HoldsB.ofBytes h hb (by rw [hl]; decide)
  rw [hl] at this
  exact this
theorem ofInt_zero64 (u : Int) (h0 : -9223372036854775808 ≤ u) (h1 : u ≤ 9223372036854775807) : BitVec.ofInt 64 u = 0#64 ↔ u = 0 := by
  refine ⟨fun h => ?_, fun h => by subst h; rfl⟩
  have := congrArg BitVec.toNat h
  rw [BitVec.toNat_ofInt] at this
  simp at this
  omega
theorem ofInt_inj64 (u v : Int) (h0 : 0 ≤ u) (h1 : u ≤ 9223372036854775807) (g0 : 0 ≤ v) (g1 : v ≤ 9223372036854775807) : BitVec.ofInt 64 u = BitVec.ofInt 64 v ↔ u = v := by
  refine ⟨fun h => ?_, fun h => by subst h; rfl⟩
  have := congrArg BitVec.toNat h
  rw [BitVec.toNat_ofInt, BitVec.toNat_ofInt] at this
  omega
set_option maxRecDepth 100000 in
theorem wrap64_zero (b : BitVec 64) : IntKind.i64.wrap (b.toNat : Int) = 0 ↔ b = 0#64 := by
  have h := b.isLt
  rw [IntKind.wrap_i64]
  refine ⟨fun e => ?_, fun e => by rw [e]; decide⟩
  apply BitVec.eq_of_toNat_eq
  simp
  omega
theorem or64 (u v : Int) (h0 : -9223372036854775808 ≤ u) (h1 : u ≤ 9223372036854775807) (g0 : -9223372036854775808 ≤ v) (g1 : v ≤ 9223372036854775807) : bits .or .i64 u v = 0 ↔ u = 0 ∧ v = 0 := by
  have e : bits .or .i64 u v = IntKind.i64.wrap ((BitVec.ofInt 64 u ||| BitVec.ofInt 64 v).toNat : Int) := rfl
  rw [e, wrap64_zero, BitVec.or_eq_zero_iff, ofInt_zero64 u h0 h1, ofInt_zero64 v g0 g1]
theorem xor64 (u v : Int) (h0 : 0 ≤ u) (h1 : u ≤ 9223372036854775807) (g0 : 0 ≤ v) (g1 : v ≤ 9223372036854775807) : bits .xor .i64 u v = 0 ↔ u = v := by
  have e : bits .xor .i64 u v = IntKind.i64.wrap ((BitVec.ofInt 64 u ^^^ BitVec.ofInt 64 v).toNat : Int) := rfl
  rw [e, wrap64_zero, BitVec.xor_eq_zero_iff, ofInt_inj64 u v h0 h1 g0 g1]
theorem xor8 (u v : Int) (h0 : 0 ≤ u ∧ u ≤ 255) (g0 : 0 ≤ v ∧ v ≤ 255) : bits .xor .u8 u v = 0 ↔ u = v := by
  have e : bits .xor .u8 u v = IntKind.u8.wrap ((BitVec.ofInt 8 u ^^^ BitVec.ofInt 8 v).toNat : Int) := rfl
  have h := (BitVec.ofInt 8 u ^^^ BitVec.ofInt 8 v).isLt
  rw [e, IntKind.wrap_u8']
  constructor
  · intro h1
    have h2 : (BitVec.ofInt 8 u ^^^ BitVec.ofInt 8 v) = 0#8 := by
      apply BitVec.eq_of_toNat_eq
      show (BitVec.ofInt 8 u ^^^ BitVec.ofInt 8 v).toNat = 0
      omega
    have h3 := congrArg BitVec.toNat (BitVec.xor_eq_zero_iff.1 h2)
    rw [BitVec.toNat_ofInt, BitVec.toNat_ofInt] at h3
    omega
  · intro h1
    subst h1
    rw [BitVec.xor_self]
    rfl
/-- What the loop holds. -/
theorem take_eq {p q : List Int} {i : Nat} (hi : i < p.length) (hj : i < q.length) : p.take (i + 1) = q.take (i + 1) ↔ p.take i = q.take i ∧ p.getD i 0 = q.getD i 0 := by
  rw [take_succ_get hi, take_succ_get hj]
  constructor
  · intro h
    have := List.append_inj h (by rw [List.length_take, List.length_take]; omega)
    exact ⟨this.1, by simpa using this.2⟩
  · rintro ⟨h1, h2⟩
    rw [h1, h2]
theorem eq_take {p q : List Int} : p = q ↔ p.length = q.length ∧ p.take (min p.length q.length) = q.take (min p.length q.length) := by
  constructor
  · rintro rfl; exact ⟨rfl, rfl⟩
  · rintro ⟨h1, h2⟩
    rw [h1, Nat.min_self, List.take_length] at h2
    rw [List.take_of_length_le (by omega)] at h2
    exact h2
set_option maxRecDepth 100000 in
set_option maxHeartbeats 1000000 in
theorem equal_any (M N : Nat) (v u : Value) (p q : List Int) (w : World) (hp : HoldsB w M v p) (hq : HoldsB w N u q) :
    Calls Tryd.prog 85 #[v, u] w fun r w' => r = .returned (.bool (decide (p = q))) ∧ Below w.heap.size w w' := by
  have hlp := hp.len
  have hlq := hq.len
  unfold maxLen at hlp hlq
  obtain ⟨a, n, cap, rfl, hn⟩ := hp.slice
  obtain ⟨a2, m, cap2, rfl, hm⟩ := hq.slice
  have HP := Kp.mk hp
  have HQ := Kp.mk hq
  have HN := Kp.mk hn
  have HM := Kp.mk hm
  have n0 : n ≤ 9223372036854775807 := by omega
  have m0 : m ≤ 9223372036854775807 := by omega
  clear hp hq hn hm hlp hlq
  go_enter Tryd.func85, Tryd.ntmps85
  go_wp2_with fail
  obtain ⟨k, hk⟩ : ∃ k, k = min n m := ⟨_, rfl⟩
  have hmin : min (n : Int) (m : Int) = (k : Int) := by omega
  rw [hmin]
  have kn : k ≤ n := by omega
  have km : k ≤ m := by omega
  have HKk := Kp.mk hk
  clear hmin hk
  obtain ⟨x0, hx0⟩ : ∃ x0, x0 = bits .xor .i64 (n : Int) (m : Int) := ⟨_, rfl⟩
  have HX0 : Kp (x0 = 0 ↔ n = m) := ⟨by rw [hx0, xor64 _ _ (by omega) (by omega) (by omega) (by omega)]; omega⟩
  have HXR : Kp (-9223372036854775808 ≤ x0 ∧ x0 ≤ 9223372036854775807) := ⟨by
    have h1 : IntKind.i64.min = -9223372036854775808 := rfl
    have h2 : IntKind.i64.max = 9223372036854775807 := rfl
    have := bits_within .xor .i64 (n : Int) (m : Int)
    rw [← hx0, h1, h2] at this
    exact this⟩
  rw [← hx0]
  clear hx0
  obtain ⟨A, hA⟩ : ∃ A, A = w.heap.size := ⟨_, rfl⟩
  have HA := Kp.mk hA
  clear hA
  go_loopw [5, 17] (fun s5 c wr => ∃ (i : Nat) (z : Int), i ≤ k ∧ c = .int .i64 i ∧ s5 = .int .i64 z ∧ (-9223372036854775808 ≤ z ∧ z ≤ 9223372036854775807) ∧ Kp (z = 0 ↔ n = m ∧ p.take i = q.take i) ∧ Below A w wr) (fun _ c _ => k - (intOf c).toNat)
  case atStart => exact ⟨0, x0, by omega, rfl, rfl, HXR.out, ⟨by rw [HX0.out]; simp⟩, by rw [HA.out]; exact Below.refl _ _⟩
  case round =>
    obtain ⟨i, z, hi, rfl, rfl, hz, HZ, hb⟩ := hrel
    have z0 := hz.1
    have z1 := hz.2
    have HB := Kp.mk hb
    clear hz hb
    by_cases hlt : i < k
    · obtain ⟨b, off, rfl, -, hc⟩ := HP.out.cellAt (i := i) (by have := HN.out; omega)
      obtain ⟨b2, off2, rfl, -, hc2⟩ := HQ.out.cellAt (i := i) (by have := HM.out; omega)
      have hl1 : b < w.heap.size := World.block_lt_of_cell? w _ hc
      have hl2 : b2 < w.heap.size := World.block_lt_of_cell? w _ hc2
      have hd1 : wr.cell? ⟨b, off + i, none⟩ = some (.int .u8 (p.getD i 0)) := (World.cell?_of_block (w := w) (a := ⟨b, off + i, none⟩) (HB.out.block b (by rw [HA.out]; exact hl1))).trans hc
      have hd2 : wr.cell? ⟨b2, off2 + i, none⟩ = some (.int .u8 (q.getD i 0)) := (World.cell?_of_block (w := w) (a := ⟨b2, off2 + i, none⟩) (HB.out.block b2 (by rw [HA.out]; exact hl2))).trans hc2
      have r1 := HP.out.bytes.at (i := i) (by have := HN.out; omega)
      have r2 := HQ.out.bytes.at (i := i) (by have := HM.out; omega)
      have HT := Kp.mk (take_eq (p := p) (q := q) (i := i) (by have := HN.out; omega) (by have := HM.out; omega))
      clear hc hc2 hl1 hl2
      generalize p.getD i 0 = x at *
      generalize q.getD i 0 = y at *
      have HE := Kp.mk (xor8 x y r1 r2)
      have HO := Kp.mk (or64 z (bits .xor .u8 x y) z0 z1 (by have := (bits_u8r .xor x y); omega) (by have := (bits_u8r .xor x y); omega))
      have HR := Kp.mk (bits_u8r .xor x y)
      have HR1 := Kp.mk r1
      have HR2 := Kp.mk r2
      have in1 : (i : Int) < n := by omega
      have im1 : (i : Int) < m := by omega
      obtain ⟨r1a, r1b⟩ := r1
      obtain ⟨r2a, r2b⟩ := r2
      go_wp2_with fail
      go_quiet (fail)
      have hw : wrap64 (bits .xor .u8 x y) = bits .xor .u8 x y := by have := HR.out; unfold wrap64; omega
      rw [hw]
      have HZ2 : Kp (bits .or .i64 z (bits .xor .u8 x y) = 0 ↔ n = m ∧ p.take (i + 1) = q.take (i + 1)) := ⟨by rw [HO.out, HZ.out, HE.out, HT.out, and_assoc]⟩
      have HR3 : Kp (-9223372036854775808 ≤ bits .or .i64 z (bits .xor .u8 x y) ∧ bits .or .i64 z (bits .xor .u8 x y) ≤ 9223372036854775807) := ⟨bits_lo_i64 _ _ _, bits_hi_i64 _ _ _⟩
      clear hw
      generalize bits .or .i64 z (bits .xor .u8 x y) = z2 at *
      have HB2 : Kp (Below A w (wr.drewN nq)) := ⟨below_drewN HB.out nq⟩
      clear hd1 hd2
      generalize wr.drewN nq = w2 at *
      go_wp2_with fail
      exact ⟨⟨i + 1, z2, by omega, by go_num, rfl, HR3.out, HZ2, HB2.out⟩, by simp [intOf]; omega⟩
    · have HI : Kp (i = k) := ⟨by omega⟩
      have hge : (k : Int) ≤ i := by omega
      have HF : Kp ((z == 0) = decide (p = q)) := ⟨by
        have h := HZ.out
        rw [HI.out, HKk.out] at h
        have h2 : z = 0 ↔ p = q := by
          rw [h, eq_take (p := p) (q := q), ← HN.out, ← HM.out]
        rw [Bool.eq_iff_iff, beq_iff_eq, decide_eq_true_iff]
        exact h2⟩
      clear hlt hi
      go_wp2_with fail
      go_ret
      exact ⟨by show Ending.returned (.bool (z == 0)) = _; rw [HF.out], by rw [← HA.out]; exact HB.out⟩
set_option maxRecDepth 100000 in
set_option maxHeartbeats 1000000 in
theorem same_any (x y : List Int) (w : World) (hx : x.length = 16) (hxb : Bytes x) (hy : y.length = 16) (hyb : Bytes y) :
    Calls Tryd.prog 46 #[dgV x, dgV y] w fun r w' => r = .returned (.bool (decide (x = y))) ∧ Below w.heap.size w w' := by
  have HX := Kp.mk hx
  have HXB := Kp.mk hxb
  have HY := Kp.mk hy
  have HYB := Kp.mk hyb
  clear hx hxb hy hyb
  go_enter Tryd.func46, Tryd.ntmps46
  go_wp2_with fail
  obtain ⟨A, hA⟩ : ∃ A, A = w.heap.size := ⟨_, rfl⟩
  have HA := Kp.mk hA
  rw [← hA]
  refine wp_world (fun W => Row W A 83 .u8 x ∧ Row W (A + 1) 83 .u8 y ∧ Below A w W) ⟨Blk.old (Blk.newAt _ hA) _, Blk.newAt _ (by simp [hA]), by rw [hA]; exact more (more (Below.refl _ _) _) _⟩ ?_
  clear hA
  rintro W ⟨h1, h2, h3⟩
  refine wp_region_flow (fun w' => Row w' A 83 .u8 x ∧ Row w' (A + 1) 83 .u8 y ∧ Below A w w') (by kernel_rfl) (by kernel_rfl) (by kernel_rfl) (fun w1 w2 h hb => ⟨h.1.keep hb, h.2.1.keep hb, h.2.2.trans (hb.mono (Nat.le_of_lt h.1.lt))⟩) ⟨h1.drew, h2.drew, h3.drew⟩ ?_
  repeat (first
    | (apply Flow.value
       · rfl
       · (intro wx hS; have hs := slice50_all; go_simp; with_reducible rfl)
       try simp only [Act.put, List.setIfInBounds_toArray, List.set_cons_zero, List.set_cons_succ])
    | (apply Flow.call
       · rfl
       · (intro wx hS; go_simp; constructor <;> with_reducible rfl)
       · (intro wx hS; exact equal_any _ _ _ _ x y wx (hold16 hS.1 HX.out HXB.out) (hold16 hS.2.1 HY.out HYB.out))
       try simp only [Act.put, List.setIfInBounds_toArray, List.set_cons_zero, List.set_cons_succ]))
  refine Flow.done ?_
  intro w' hS
  go_wp2_with fail
  go_ret
  exact ⟨rfl, by rw [← HA.out]; exact hS.2.2⟩
end Go.Proofs.YtgabjmmmiogfjaaDoor
