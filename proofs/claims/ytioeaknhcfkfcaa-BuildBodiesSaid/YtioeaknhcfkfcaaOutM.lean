/-
  The document's Out: Num, Bytes.
-/
import Derived.Test.YtioeaknhcfkfcaaOutR
namespace Go.Proofs.Ytioeaknhcfkfcaa
open Go.RowKit

def ROutPost (v0 : Value) (l : List Int) (f : Bool) (w : World) (r : Ending) (w' : World) : Prop :=
  ∃ v', r = .returned (routV v' f) ∧ HoldsB w' w'.heap.size v' l ∧ (v' = v0 ∨ w'.ownsRow w.heap.size 5 1 v' l.length (bv l)) ∧ Below w.heap.size w w'
/-- A number's lowest bytes, the lowest first. -/
def lows (n : Int) (i : Nat) : List Int := (List.range i).map fun j => n / 256 ^ j % 256
theorem lows_step (n : Int) (i : Nat) : lows n i ++ [n / 256 ^ i % 256] = lows n (i + 1) := by
  unfold lows
  rw [List.range_succ, List.map_append]; rfl
theorem lows_len (n : Int) (i : Nat) : (lows n i).length = i := by simp [lows]
theorem pow_step (n : Int) (i : Nat) : n / 256 ^ i / 256 = n / 256 ^ (i + 1) := by
  rw [Int.pow_succ, Int.ediv_ediv_of_nonneg (Int.pow_nonneg (by omega))]
theorem lows_at {n : Int} {k j : Nat} (h : j < k) : (bv (lows n k))[j]? = some (.int .u8 (n / 256 ^ j % 256)) := by
  unfold bv lows
  rw [List.getElem?_map, List.getElem?_map, List.getElem?_range h]; rfl

set_option maxHeartbeats 3200000 in
theorem rnum_any (M : Nat) (v : Value) (l : List Int) (f : Bool) (n : Int) (k : Nat) (w : World) (h : HoldsB w M v l) (hM : M ≤ w.heap.size) (hn0 : 0 ≤ n) (hn1 : n < 18446744073709551616) (hk : k ≤ 8) (hlen : l.length ≤ 1000000000000) :
    Calls Try.prog 46 #[routV v f, .int .u64 n, .int .i64 k] w (ROutPost v (if 256 ^ k ≤ n then l else l ++ digs n k) (numF f n k) w) := by
  have H := Lib.hid h
  obtain ⟨a, m, cap, rfl, -⟩ := h.slice
  clear h
  have HB : Hid (Below w.heap.size w ((w.alloc (.cells #[.slice a m cap, .bool f] 112)).alloc (.cells #[.slice none 0 0, .bool false] 112))) := more (more (Below.refl _ _) _) _
  have HA : Hid (Blk ((w.alloc (.cells #[.slice a m cap, .bool f] 112)).alloc (.cells #[.slice none 0 0, .bool false] 112)) w.heap.size (.cells #[.slice a m cap, .bool f] 112)) := (Blk.new _ _).old _
  have HR : Hid (Blk ((w.alloc (.cells #[.slice a m cap, .bool f] 112)).alloc (.cells #[.slice none 0 0, .bool false] 112)) (w.heap.size + 1) (.cells #[.slice none 0 0, .bool false] 112)) := Blk.newAt _ (by simp)
  have hs2 : ((w.alloc (.cells #[.slice a m cap, .bool f] 112)).alloc (.cells #[.slice none 0 0, .bool false] 112)).heap.size = w.heap.size + 2 := by simp
  obtain ⟨LL, hLL⟩ : ∃ x, x = (if 256 ^ k ≤ n then l else l ++ digs n k) := ⟨_, rfl⟩
  obtain ⟨FF, hFF⟩ : ∃ x, x = numF f n k := ⟨_, rfl⟩
  rw [← hLL, ← hFF]
  have HLL := Lib.hid hLL
  have HFF := Lib.hid hFF
  clear hLL hFF
  go_enter Try.func46, Try.ntmps46
  go_wp2_with fail
  all_goals
    generalize (w.alloc (.cells #[.slice a m cap, .bool f] 112)).alloc (.cells #[.slice none 0 0, .bool false] 112) = W at HB HA HR hs2 ⊢
    go_loopw [7, 8, 9] (fun row q c wr => ∃ i : Nat, i ≤ k ∧ c = .int .i64 i ∧ q = .int .u64 (n / 256 ^ i) ∧ wr.ownsRow (w.heap.size + 2) 5 1 row i (bv (lows n i)) ∧ Below (w.heap.size + 2) W wr) (fun _ _ c _ => k - (intOf c).toNat)
    case atStart => exact ⟨0, by omega, rfl, by simp, World.ownsRow_nil _ _ _ _, Below.refl _ _⟩
    case round =>
      obtain ⟨i, hi, rfl, rfl, hrow, hbel⟩ := hrel
      have HROW := Lib.hid hrow
      have HBL := Lib.hid hbel
      clear hrow hbel
      by_cases hlt : i < k
      · have hst := Lib.hid (lows_step n i)
        have hps := Lib.hid (pow_step n i)
        have hq : 0 ≤ n / 256 ^ i ∧ n / 256 ^ i < 18446744073709551616 := by
          have h1 : (0 : Int) < 256 ^ i := Int.pow_pos (by omega)
          exact ⟨Int.ediv_nonneg hn0 (by omega), Int.lt_of_le_of_lt (Int.ediv_le_self _ hn0) hn1⟩
        generalize hqe : n / 256 ^ i = q at hq hst hps
        obtain ⟨hq0, hq1⟩ := hq
        have hx0 : 0 ≤ q % 256 ∧ q % 256 ≤ 255 := by omega
        have HX := Lib.hid hx0
        have HSZ : Hid (w.heap.size + 2 ≤ wr.heap.size) := by have := HBL.out.size; show _ ≤ _; omega
        clear hqe hx0
        go_wp2_with (at_builtin; refine wpList_append_holdsF rfl _ _ rfl (w.heap.size + 2) _ i _ rfl (HROW.out.alloc _) (wr.heap.size + 1) _ [q % 256] rfl (HoldsB.one wr (q % 256) HX.out.1 HX.out.2) ?c0 ?c1 ?_)
        case c0 => simp; omega
        case c1 => have := HSZ.out; simp; omega
        intro v' w' ho hg
        have HB' : Hid (Below (w.heap.size + 2) W w') := ((more (Below.refl _ wr) _).mono HSZ.out |> HBL.out.trans).grown hg (by have := HSZ.out; simp; omega) (fun j hj => (HROW.out.lt j hj).1)
        have HO' : Hid (w'.ownsRow (w.heap.size + 2) 5 1 v' (i + 1) (bv (lows n (i + 1)))) := by
          have h1 := ho
          show World.ownsRow _ _ _ _ _ _ _
          rw [← hst.out]
          simpa using h1
        clear ho hg
        go_wp2_with fail
        exact ⟨⟨i + 1, by omega, by go_num, by rw [← hps.out], HO'.out, HB'.out⟩, by simp [intOf]; omega⟩
      · obtain rfl : i = k := by omega
        have hA := HA.out.upto HBL.out (by omega)
        have hR := HR.out.upto HBL.out (by omega)
        have HWR : Hid (w.heap.size + 2 ≤ wr.heap.size) := by have := HBL.out.size; show _ ≤ _; omega
        have HBW : Hid (Below w.heap.size w wr) := HB.out.trans (HBL.out.mono (by omega))
        have HA2 := Lib.hid hA
        have HR2 := Lib.hid hR
        have hpos : (0 : Int) < 256 ^ i := Int.pow_pos (by omega)
        by_cases hbig : 0 < n / 256 ^ i
        · have hle : (256 : Int) ^ i ≤ n := by
            have h1 := (Int.le_ediv_iff_mul_le hpos).1 (show (1 : Int) ≤ n / 256 ^ i by omega)
            simpa using h1
          have HE : Hid (LL = l ∧ FF = true) := ⟨HLL.out.trans (if_pos hle), HFF.out.trans (by unfold numF; simp [hle])⟩
          obtain ⟨c0, c1, f0, f1⟩ := hA.two
          obtain ⟨d0, d1, g0, g1⟩ := hR.two
          generalize n / 256 ^ i = q at hbig ⊢
          clear hA hR hle hpos
          go_wp2_with fail
          have hRO : Blk (wr.setCell ⟨w.heap.size, 1, none⟩ (.bool true)) (w.heap.size + 1) (.cells #[.slice none 0 0, .bool false] 112) := HR2.out.setOther (p := ⟨w.heap.size, 1, none⟩) (by show w.heap.size ≠ _; omega) _
          have hRF : Blk (((wr.setCell ⟨w.heap.size, 1, none⟩ (.bool true)).setCell ⟨w.heap.size + 1, 0, none⟩ (.slice a m cap)).setCell ⟨w.heap.size + 1, 1, none⟩ (.bool true)) (w.heap.size + 1) (.cells #[.slice a m cap, .bool true] 112) :=
            (hRO.set 0 (.slice a m cap)).set 1 (.bool true)
          have hsz := HWR.out
          have hTA := ((Turn.same HA2.out).set 1 (.bool true)).below (B := w.heap.size) (Nat.le_refl _) (by omega)
          have hTR := (((Turn.same hRO).set 0 (.slice a m cap)).set 1 (.bool true)).below (B := w.heap.size) (by omega) (by simp; omega)
          have hBF := (HBW.out.trans hTA).trans hTR
          refine bodyPost_ret (v := routV (.slice a m cap) true) (results_cell_row Try.results46 _ _ (w.heap.size + 1) 112 #[.slice a m cap, .bool true] (0, 0) _ rfl hRF Try.underlying112 rfl info28) rfl ⟨_, by rw [HE.out.2], by rw [HE.out.1]; exact (H.out.keep hBF).mono (by have := hBF.size; omega), .inl rfl, hBF⟩
        · have hle : ¬ (256 : Int) ^ i ≤ n := fun h => hbig (by
            have h1 := (Int.le_ediv_iff_mul_le hpos).2 (show (1 : Int) * 256 ^ i ≤ n by omega)
            omega)
          have HE : Hid (LL = l ++ digs n i ∧ FF = f) := ⟨HLL.out.trans (if_neg hle), HFF.out.trans (by unfold numF; rw [decide_eq_false hle, Bool.or_false])⟩
          have HBA := Lib.hid (H.out.keep HBW.out)
          have hu7 : Hid (∀ g, u7.ownBlock = some g → g < wr.heap.size) := fun g hg => (HROW.out.lt g hg).2
          obtain ⟨c0, c1, f0, f1⟩ := hA.two
          generalize n / 256 ^ i = q at hbig ⊢
          clear hA hR hle hpos
          go_wp2_with (at_builtin; refine wpList_append_holdsF rfl _ _ rfl wr.heap.size _ _ _ rfl (World.ownsRow_nil _ _ _ _) M _ l rfl HBA.out ?c0 ?c1 ?_)
          case c0 => omega
          intro v1 w1 ho1 hg1
          have hB1 : Below wr.heap.size wr w1 := (Below.refl _ wr).grown hg1 (Nat.le_refl _) (fun k hk => by simp [Value.ownBlock] at hk)
          have HU1 := Lib.hid (ownsRow_below HROW.out hB1)
          have HO1 : Hid (w1.ownsRow wr.heap.size 5 1 v1 l.length (bv l)) := by
            have h1 := ho1
            show World.ownsRow _ _ _ _ _ _ _
            simpa using h1
          have HA3 := Lib.hid (HA2.out.keep hB1)
          have HR3 := Lib.hid (HR2.out.keep hB1)
          have HW3 : Hid (Below w.heap.size w w1) := HBW.out.trans (hB1.mono (by have := HWR.out; omega))
          have HZ3 : Hid (wr.heap.size ≤ w1.heap.size) := hB1.size
          clear ho1 hg1 hB1 c0 c1 f0 f1 HA2 HR2
          generalize wr.heap.size = B2 at HU1 HO1 HWR hu7 HZ3 ⊢
          have hi8 : (i : Int) ≤ 8 := by omega
          go_wp2_with fail
          go_loopw [10, 11] (fun row c wq => ∃ j : Nat, j ≤ i ∧ c = .int .i64 ((i : Int) - 1 - j) ∧ wq.ownsRow B2 5 1 row (l.length + j) (bv (l ++ (digs n i).take j)) ∧ wq.ownsRow (w.heap.size + 2) 5 1 u7 i (bv (lows n i)) ∧ Below B2 w1 wq) (fun _ c _ => (intOf c + 1).toNat)
          case atStart => exact ⟨0, by omega, by go_num, by simpa using HO1.out, HU1.out, Below.refl _ _⟩
          case round =>
            obtain ⟨j, hj, rfl, hrow, hu, hbel⟩ := hrel
            have HR5 := Lib.hid hrow
            have HU5 := Lib.hid hu
            have HB5 := Lib.hid hbel
            clear hrow hbel
            by_cases hlt2 : j < i
            · obtain ⟨t, ht, hti⟩ : ∃ t : Nat, (i : Int) - 1 - j = t ∧ i = t + 1 + j := ⟨i - 1 - j, by omega, by omega⟩
              rw [ht]
              have hsh : ∃ g cap, u7 = .slice (some ⟨g, 0, none⟩) i cap := by
                rcases hu.2 with ⟨_, h0⟩ | ⟨g, cap, cur, h1, _⟩
                · omega
                · exact ⟨g, cap, h1⟩
              obtain ⟨g, cap7, rfl⟩ := hsh
              have hgB := hu7.out g rfl
              have hc : wr.cell? ⟨g, t, none⟩ = some (.int .u8 (n / 256 ^ t % 256)) := (hu.cellAt t (by omega)).trans (lows_at (by omega))
              have hdt0 := digs_take (n := n) (k := i) (i := j) (by omega)
              rw [show i - 1 - j = t by omega] at hdt0
              have hdt := Lib.hid hdt0
              have hx : 0 ≤ n / 256 ^ t % 256 ∧ n / 256 ^ t % 256 ≤ 255 := by omega
              have HX := Lib.hid hx
              have HJ : Hid (j + 1 ≤ i ∧ (t : Int) - 1 = (i : Int) - 1 - ((j + 1 : Nat) : Int)) := ⟨by omega, by omega⟩
              have htl : (t : Int) < i := by omega
              have ht8 : (t : Int) ≤ 8 := by omega
              have HZ5 : Hid (B2 ≤ wr.heap.size) := by have := HB5.out.size; have := HZ3.out; show _ ≤ _; omega
              have HL : Hid (l.length + j + 1 ≤ 140737488355328) := by show _ ≤ _; omega
              generalize n / 256 ^ t % 256 = x at hc hx HX hdt
              clear hdt0 hx hu ht hti
              go_wp2_with (at_builtin; refine wpList_append_holdsF rfl _ _ rfl B2 u10 (l.length + j) (bv (l ++ (digs n i).take j)) rfl (World.ownsRow.alloc HR5.out _) (wr.heap.size + 1) _ [x] rfl (HoldsB.one wr x HX.out.1 HX.out.2) (by have := HL.out; simp; omega) (by have := HZ5.out; simp; omega) ?_)
              intro v' w' ho hg
              have HB' : Hid (Below B2 w1 w') := (HB5.out.trans ((more (Below.refl _ wr) _).mono HZ5.out)).grown hg (by have := HZ5.out; simp; omega) (fun k hk => (HR5.out.lt k hk).1)
              have HU' : Hid (w'.ownsRow (w.heap.size + 2) 5 1 (.slice (some ⟨g, 0, none⟩) i cap7) i (bv (lows n i))) := (HU5.out.alloc _).kept hg (.inr (fun e => by have := (HR5.out.lt g e.symm).1; omega))
              have HO' : Hid (w'.ownsRow B2 5 1 v' (l.length + (j + 1)) (bv (l ++ (digs n i).take (j + 1)))) := by
                have h1 := ho
                show World.ownsRow _ _ _ _ _ _ _
                rw [hdt.out]
                simpa [Nat.add_assoc] using h1
              clear ho hg
              go_wp2_with fail
              exact ⟨⟨j + 1, HJ.out.1, by rw [HJ.out.2], HO'.out, HU'.out, HB'.out⟩, by simp [intOf]⟩
            · obtain rfl : j = i := by omega
              have HL2 : Hid (wr.ownsRow B2 5 1 u10 (l ++ digs n j).length (bv (l ++ digs n j))) := by
                have h1 := HR5.out
                rw [List.take_of_length_le (by rw [digs_len]; omega)] at h1
                show World.ownsRow _ _ _ _ _ _ _
                rw [List.length_append, digs_len]
                exact h1
              obtain ⟨a5, n5, c5, rfl⟩ := row_shapeF HL2.out
              have HA4 := Lib.hid (HA3.out.upto HB5.out (by have := HWR.out; omega))
              have HR4 := Lib.hid (HR3.out.upto HB5.out (by have := HWR.out; omega))
              have HW4 : Hid (Below w.heap.size w wr) := HW3.out.trans (HB5.out.mono (by have := HWR.out; omega))
              have hA4 := HA4.out
              have hR4 := HR4.out
              obtain ⟨c0, c1, f0, f1⟩ := Blk.two hA4
              obtain ⟨d0, d1, g0, g1⟩ := Blk.two hR4
              have hm1 : ¬ (0 : Int) ≤ (j : Int) - 1 - j := by omega
              clear hu hA4 hR4
              go_wp2_with fail
              have hsA : w.heap.size < wr.heap.size := Blk.lt HA4.out
              have hRO : Blk (wr.setCell ⟨w.heap.size, 0, none⟩ (.slice a5 n5 c5)) (w.heap.size + 1) (.cells #[.slice none 0 0, .bool false] 112) := HR4.out.setOther (p := ⟨w.heap.size, 0, none⟩) (by show w.heap.size ≠ _; omega) _
              have hRF : Blk (((wr.setCell ⟨w.heap.size, 0, none⟩ (.slice a5 n5 c5)).setCell ⟨w.heap.size + 1, 0, none⟩ (.slice a5 n5 c5)).setCell ⟨w.heap.size + 1, 1, none⟩ (.bool f)) (w.heap.size + 1) (.cells #[.slice a5 n5 c5, .bool f] 112) :=
                (hRO.set 0 (.slice a5 n5 c5)).set 1 (.bool f)
              have hTA := ((Turn.same HA4.out).set 0 (.slice a5 n5 c5)).below (B := w.heap.size) (Nat.le_refl _) (by omega)
              have hTR := (((Turn.same hRO).set 0 (.slice a5 n5 c5)).set 1 (.bool f)).below (B := w.heap.size) (by omega) (by simpa using Nat.le_of_lt hsA)
              have hB2 := HWR.out
              have hrow := ownsRow_setCell_below (ownsRow_setCell_below (ownsRow_setCell_below HL2.out (a := ⟨w.heap.size, 0, none⟩) (by show w.heap.size < _; omega) (.slice a5 n5 c5)) (a := ⟨w.heap.size + 1, 0, none⟩) (by show w.heap.size + 1 < _; omega) (.slice a5 n5 c5)) (a := ⟨w.heap.size + 1, 1, none⟩) (by show w.heap.size + 1 < _; omega) (.bool f)
              refine bodyPost_ret (v := routV (.slice a5 n5 c5) f) (results_cell_row Try.results46 _ _ (w.heap.size + 1) 112 #[.slice a5 n5 c5, .bool f] (0, 0) _ rfl hRF Try.underlying112 rfl info28) rfl ⟨_, by rw [HE.out.2], by rw [HE.out.1]; exact HoldsB.ofRow (H.out.bytes.append (digs_bytes _ _)) hrow, .inr (by rw [HE.out.1]; exact row_monoF hrow (by have := HWR.out; omega)), (HW4.out.trans hTA).trans hTR⟩
end Go.Proofs.Ytioeaknhcfkfcaa
