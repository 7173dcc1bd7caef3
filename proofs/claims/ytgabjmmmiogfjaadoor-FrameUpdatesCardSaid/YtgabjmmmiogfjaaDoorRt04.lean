/-
  The document's Out: Raw, Bytes.
  The document's Out: Num, Bytes.
  The document's Out: Blob.
  The contracts of In's small calls: Left, Err, Fail, next.
  A number as its bytes: plain arithmetic. Nothing of the program is named here.
  The contracts of In's numbers.
  The contracts of In's counts, short sums and blobs, and of its beginning and end.
  The contracts of In's beginning and end.
-/
import Derived.Test.YtgabjmmmiogfjaaDoorRt03
import Derived.Laws.BitsAllLaws
import Derived.Laws.CopyOwn
import Derived.RegionTactic
import Derived.BigRegion
import Derived.Deep.RegionWith
namespace Go.Proofs.YtgabjmmmiogfjaaDoor
open Go.RowKit

/-- append of bytes that stand somewhere, to a row of the call's own. -/
theorem wpList_append_holdsF {w : World} {ops : Array Oper} {rest : List Oper} {o : Oper} {a : Act} {Q : Exit → Act → World → Prop} (hgd : o.guard = none) (s x : Operand)
    (ho : o.op = .call { callee := .builtin .append, args := #[s, x], argTypes := #[24, 24] })
    (base : Nat) (v : Value) (n : Nat) (xs : List Value) (hs : a.eval s = v) (hown : w.ownsRow base 5 1 v n xs)
    (M : Nat) (u : Value) (p : List Int) (hx : a.eval x = u) (hp : HoldsB w M u p) (h63 : n + p.length ≤ 140737488355328) (hbase : base ≤ w.heap.size)
    (h : ∀ v' w', w'.ownsRow base 5 1 v' (n + p.length) (xs ++ bv p) → w.grownBy w' v.ownBlock → wpList Tryd.prog ops Q rest (a.put o.dst v') w') : wpList Tryd.prog ops Q (o :: rest) a w := by
  obtain ⟨i0, hi, hz0, hz1, hz2⟩ := info_parts info5
  obtain ⟨ad, m, cap, rfl, hm⟩ := hp.slice
  cases ad with
  | none =>
    obtain ⟨a', cap', h1, h2, h3, h4, h5, h6, h7⟩ := hp
    simp only [Value.slice.injEq] at h1
    have hc := h4 h1.1.symm
    have hl : p = [] := List.length_eq_zero_iff.1 (by omega)
    subst hl
    have hx' : a.eval x = .slice none 0 0 := by rw [hx]; simp only [Value.slice.injEq, true_and]; exact ⟨by simpa using hm, by omega⟩
    exact wpList_append_own_none hgd s x 24 ho base 5 i0 1 Tryd.underlying24 hi v n xs hs hown hx' (h v w (by simpa using hown) ⟨rfl, rfl, rfl, Nat.le_refl _, fun _ _ _ => rfl⟩)
  | some ad =>
    refine wpList_append_own w hgd s x 24 ho base 5 i0 (.int .u8 0) 1 1 Tryd.underlying24 hi hz0 hz1 hz2 rfl (by decide) v n xs hs hown ad m cap (bv p) hx (by rw [bv_len]; omega) hp.news (bv_one _) (by unfold maxLen; omega) (by omega) hbase fun v' w' h1 h2 _ => ?_
    rw [hm] at h1
    exact h v' w' h1 h2

theorem row_shapeF {w : World} {base n : Nat} {v : Value} {xs : List Value} (h : w.ownsRow base 5 1 v n xs) : ∃ a m c, v = .slice a m c := by
  rcases h.2 with ⟨rfl, _⟩ | ⟨g, cap, cur, rfl, _⟩ <;> exact ⟨_, _, _, rfl⟩
theorem row_monoF {w : World} {base base' n : Nat} {v : Value} {xs : List Value} (h : w.ownsRow base 5 1 v n xs) (hb : base' ≤ base) : w.ownsRow base' 5 1 v n xs := by
  obtain ⟨h1, h2⟩ := h
  refine ⟨h1, ?_⟩
  rcases h2 with h2 | ⟨g, cap, cur, e, hg, r⟩
  · exact .inl h2
  · exact .inr ⟨g, cap, cur, e, Nat.le_trans hb hg, r⟩
abbrev routV (v : Value) (f : Bool) : Value := .agg #[v, .bool f]
def RawPost (l : List Int) (f : Bool) (w : World) (r : Ending) (w' : World) : Prop :=
  ∃ v', r = .returned (routV v' f) ∧ w'.ownsRow w.heap.size 5 1 v' l.length (bv l) ∧ Below w.heap.size w w'
theorem info28 : (Tryd.prog.info? 122).map (·.size) = some 2 := by kernel_rfl
set_option maxHeartbeats 3200000 in
theorem rraw_any (M : Nat) (v s : Value) (l p : List Int) (f : Bool) (w : World) (h : HoldsB w M v l) (hs : HoldsB w M s p) (hlen : l.length + p.length ≤ 1099511627776) :
    Calls Tryd.prog 57 #[routV v f, s] w (RawPost (l ++ p) f w) := by
  have H := Lib.hid h
  have HS := Lib.hid hs
  obtain ⟨a, n, cap, rfl, -⟩ := h.slice
  obtain ⟨a2, n2, cap2, rfl, -⟩ := hs.slice
  clear h hs
  have HB : Hid (Below w.heap.size w ((w.alloc (.cells #[.slice a n cap, .bool f] 122)).alloc (.cells #[.slice none 0 0, .bool false] 122))) := more (more (Below.refl _ _) _) _
  have HA : Hid (Blk ((w.alloc (.cells #[.slice a n cap, .bool f] 122)).alloc (.cells #[.slice none 0 0, .bool false] 122)) w.heap.size (.cells #[.slice a n cap, .bool f] 122)) := (Blk.new _ _).old _
  have HR : Hid (Blk ((w.alloc (.cells #[.slice a n cap, .bool f] 122)).alloc (.cells #[.slice none 0 0, .bool false] 122)) (w.heap.size + 1) (.cells #[.slice none 0 0, .bool false] 122)) := Blk.newAt _ (by simp)
  go_enter Tryd.func57, Tryd.ntmps57
  go_wp2_with (at_builtin; refine wpList_append_holdsF rfl _ _ rfl (w.heap.size + 2) _ _ _ rfl (World.ownsRow_nil _ _ _ _) M _ l rfl ((H.out.keep HB.out)) ?c0 ?c1 ?_)
  case c0 => omega
  case c1 => simp
  intro v1 w1 ho1 hg1
  have hs2 : ((w.alloc (.cells #[.slice a n cap, .bool f] 122)).alloc (.cells #[.slice none 0 0, .bool false] 122)).heap.size = w.heap.size + 2 := by simp
  generalize (w.alloc (.cells #[.slice a n cap, .bool f] 122)).alloc (.cells #[.slice none 0 0, .bool false] 122) = W at HB HA HR hg1 hs2 ⊢
  have hB1 : Below (w.heap.size + 2) W w1 := (Below.refl _ W).grown hg1 (by omega) (fun k hk => by simp [Value.ownBlock] at hk)
  have HB1 : Hid (Below w.heap.size w w1) := HB.out.trans (hB1.mono (by omega))
  have HA1 : Hid (Blk w1 w.heap.size (.cells #[.slice a n cap, .bool f] 122)) := HA.out.upto hB1 (by omega)
  have HR1 : Hid (Blk w1 (w.heap.size + 1) (.cells #[.slice none 0 0, .bool false] 122)) := HR.out.upto hB1 (by omega)
  have HO1 := Lib.hid ho1
  have HZ1 : Hid (w.heap.size + 2 ≤ w1.heap.size) := by have := hB1.size; show _ ≤ _; omega
  clear ho1 hg1 hB1 hs2 HA HR HB
  go_wp2_with (at_builtin; refine wpList_append_holdsF rfl _ _ rfl (w.heap.size + 2) _ _ _ rfl HO1.out M _ p rfl (HS.out.keep HB1.out) ?c0 ?c1 ?_)
  case c0 => omega
  case c1 => exact HZ1.out
  intro v2 w2 ho2 hg2
  have hB2 : Below (w.heap.size + 2) w1 w2 := (Below.refl _ w1).grown hg2 HZ1.out (fun k hk => (HO1.out.lt k hk).1)
  have hA2 : Blk w2 w.heap.size (.cells #[.slice a n cap, .bool f] 122) := HA1.out.upto hB2 (by omega)
  have hR2 : Blk w2 (w.heap.size + 1) (.cells #[.slice none 0 0, .bool false] 122) := HR1.out.upto hB2 (by omega)
  have HB2 : Hid (Below w.heap.size w w2) := HB1.out.trans (hB2.mono (by omega))
  have HO2 := Lib.hid ho2
  have HA2 := Lib.hid hA2
  have HR2 := Lib.hid hR2
  obtain ⟨a5, n5, c5, rfl⟩ := row_shapeF ho2
  have hA2l := hA2.lt
  obtain ⟨c0, c1, f0, f1⟩ := hA2.two
  obtain ⟨d0, d1, g0, g1⟩ := hR2.two
  clear ho2 hg2 hB2 hA2 hR2 HZ1 HA1 HR1 HB1 HO1
  go_wp2_with fail
  have hsA : w.heap.size < w2.heap.size := hA2l
  have hRO : Blk (w2.setCell ⟨w.heap.size, 0, none⟩ (.slice a5 n5 c5)) (w.heap.size + 1) (.cells #[.slice none 0 0, .bool false] 122) := HR2.out.setOther (p := ⟨w.heap.size, 0, none⟩) (by show w.heap.size ≠ _; omega) _
  have hRF : Blk (((w2.setCell ⟨w.heap.size, 0, none⟩ (.slice a5 n5 c5)).setCell ⟨w.heap.size + 1, 0, none⟩ (.slice a5 n5 c5)).setCell ⟨w.heap.size + 1, 1, none⟩ (.bool f)) (w.heap.size + 1) (.cells #[.slice a5 n5 c5, .bool f] 122) :=
    (hRO.set 0 (.slice a5 n5 c5)).set 1 (.bool f)
  have hTA := ((Turn.same HA2.out).set 0 (.slice a5 n5 c5)).below (B := w.heap.size) (Nat.le_refl _) (by omega)
  have hTR := (((Turn.same hRO).set 0 (.slice a5 n5 c5)).set 1 (.bool f)).below (B := w.heap.size) (by omega) (by simpa using Nat.le_of_lt hsA)
  have hrow := row_monoF (ownsRow_setCell_below (ownsRow_setCell_below (ownsRow_setCell_below HO2.out (a := ⟨w.heap.size, 0, none⟩) (by show w.heap.size < _; omega) (.slice a5 n5 c5)) (a := ⟨w.heap.size + 1, 0, none⟩) (by show w.heap.size + 1 < _; omega) (.slice a5 n5 c5)) (a := ⟨w.heap.size + 1, 1, none⟩) (by show w.heap.size + 1 < _; omega) (.bool f)) (base' := w.heap.size) (by omega)
  refine bodyPost_ret (v := routV (.slice a5 n5 c5) f) (results_cell_row Tryd.results57 _ _ (w.heap.size + 1) 122 #[.slice a5 n5 c5, .bool f] (0, 0) _ rfl hRF Tryd.underlying122 rfl info28) rfl ⟨_, rfl, ?_, (HB2.out.trans hTA).trans hTR⟩
  have e1 : l.length + p.length = (l ++ p).length := by simp
  have e2 : bv l ++ bv p = bv (l ++ p) := by simp
  rw [← e1, ← e2]
  simpa using hrow
end Go.Proofs.YtgabjmmmiogfjaaDoor

namespace Go.Proofs.YtgabjmmmiogfjaaDoor
open Go.RowKit

def ROutPost (v0 : Value) (l : List Int) (f : Bool) (w : World) (r : Ending) (w' : World) : Prop :=
  ∃ v', r = .returned (routV v' f) ∧ HoldsB w' w'.heap.size v' l ∧ (v' = v0 ∨ w'.ownsRow w.heap.size 5 1 v' l.length (bv l)) ∧ Below w.heap.size w w'
/-- A number's lowest bytes, the lowest first. -/
def lows (n : Int) (i : Nat) : List Int := (List.range i).map fun j => n / 256 ^ j % 256
theorem lows_step (n : Int) (i : Nat) : lows n i ++ [n / 256 ^ i % 256] = lows n (i + 1) := by
  unfold lows
  rw [List.range_succ, List.map_append]; rfl
theorem lows_len (n : Int) (i : Nat) : (lows n i).length = i := by simp [lows]
theorem pow_step (n : Int) (i : Nat) : n / 256 ^ i / 256 = n / 256 ^ (i + 1) := by
  rw [Int.pow_succ, Int.ediv_ediv_of_nonneg (Int.pow_nonneg (by omega))]
theorem lows_at {n : Int} {k j : Nat} (h : j < k) : (bv (lows n k))[j]? = some (.int .u8 (n / 256 ^ j % 256)) := by
  unfold bv lows
  rw [List.getElem?_map, List.getElem?_map, List.getElem?_range h]; rfl

set_option maxHeartbeats 3200000 in
theorem rnum_any (M : Nat) (v : Value) (l : List Int) (f : Bool) (n : Int) (k : Nat) (w : World) (h : HoldsB w M v l) (hM : M ≤ w.heap.size) (hn0 : 0 ≤ n) (hn1 : n < 18446744073709551616) (hk : k ≤ 8) (hlen : l.length ≤ 1000000000000) :
    Calls Tryd.prog 55 #[routV v f, .int .u64 n, .int .i64 k] w (ROutPost v (if 256 ^ k ≤ n then l else l ++ digs n k) (numF f n k) w) := by
  have H := Lib.hid h
  obtain ⟨a, m, cap, rfl, -⟩ := h.slice
  clear h
  have HB : Hid (Below w.heap.size w ((w.alloc (.cells #[.slice a m cap, .bool f] 122)).alloc (.cells #[.slice none 0 0, .bool false] 122))) := more (more (Below.refl _ _) _) _
  have HA : Hid (Blk ((w.alloc (.cells #[.slice a m cap, .bool f] 122)).alloc (.cells #[.slice none 0 0, .bool false] 122)) w.heap.size (.cells #[.slice a m cap, .bool f] 122)) := (Blk.new _ _).old _
  have HR : Hid (Blk ((w.alloc (.cells #[.slice a m cap, .bool f] 122)).alloc (.cells #[.slice none 0 0, .bool false] 122)) (w.heap.size + 1) (.cells #[.slice none 0 0, .bool false] 122)) := Blk.newAt _ (by simp)
  have hs2 : ((w.alloc (.cells #[.slice a m cap, .bool f] 122)).alloc (.cells #[.slice none 0 0, .bool false] 122)).heap.size = w.heap.size + 2 := by simp
  obtain ⟨LL, hLL⟩ : ∃ x, x = (if 256 ^ k ≤ n then l else l ++ digs n k) := ⟨_, rfl⟩
  obtain ⟨FF, hFF⟩ : ∃ x, x = numF f n k := ⟨_, rfl⟩
  rw [← hLL, ← hFF]
  have HLL := Lib.hid hLL
  have HFF := Lib.hid hFF
  clear hLL hFF
  go_enter Tryd.func55, Tryd.ntmps55
  go_wp2_with fail
  all_goals
    generalize (w.alloc (.cells #[.slice a m cap, .bool f] 122)).alloc (.cells #[.slice none 0 0, .bool false] 122) = W at HB HA HR hs2 ⊢
    go_loopw [7, 8, 9] (fun row q c wr => ∃ i : Nat, i ≤ k ∧ c = .int .i64 i ∧ q = .int .u64 (n / 256 ^ i) ∧ wr.ownsRow (w.heap.size + 2) 5 1 row i (bv (lows n i)) ∧ Below (w.heap.size + 2) W wr) (fun _ _ c _ => k - (intOf c).toNat)
    case atStart => exact ⟨0, by omega, rfl, by simp, World.ownsRow_nil _ _ _ _, Below.refl _ _⟩
    case round =>
      obtain ⟨i, hi, rfl, rfl, hrow, hbel⟩ := hrel
      have HROW := Lib.hid hrow
      have HBL := Lib.hid hbel
      clear hrow hbel
      by_cases hlt : i < k
      · have hst := Lib.hid (lows_step n i)
        have hps := Lib.hid (pow_step n i)
        have hq : 0 ≤ n / 256 ^ i ∧ n / 256 ^ i < 18446744073709551616 := by
          have h1 : (0 : Int) < 256 ^ i := Int.pow_pos (by omega)
          exact ⟨Int.ediv_nonneg hn0 (by omega), Int.lt_of_le_of_lt (Int.ediv_le_self _ hn0) hn1⟩
        generalize hqe : n / 256 ^ i = q at hq hst hps
        obtain ⟨hq0, hq1⟩ := hq
        have hx0 : 0 ≤ q % 256 ∧ q % 256 ≤ 255 := by omega
        have HX := Lib.hid hx0
        have HSZ : Hid (w.heap.size + 2 ≤ wr.heap.size) := by have := HBL.out.size; show _ ≤ _; omega
        clear hqe hx0
        go_wp2_with (at_builtin; refine wpList_append_holdsF rfl _ _ rfl (w.heap.size + 2) _ i _ rfl (HROW.out.alloc _) (wr.heap.size + 1) _ [q % 256] rfl (HoldsB.one wr (q % 256) HX.out.1 HX.out.2) ?c0 ?c1 ?_)
        case c0 => simp; omega
        case c1 => have := HSZ.out; simp; omega
        intro v' w' ho hg
        have HB' : Hid (Below (w.heap.size + 2) W w') := ((more (Below.refl _ wr) _).mono HSZ.out |> HBL.out.trans).grown hg (by have := HSZ.out; simp; omega) (fun j hj => (HROW.out.lt j hj).1)
        have HO' : Hid (w'.ownsRow (w.heap.size + 2) 5 1 v' (i + 1) (bv (lows n (i + 1)))) := by
          have h1 := ho
          show World.ownsRow _ _ _ _ _ _ _
          rw [← hst.out]
          simpa using h1
        clear ho hg
        go_wp2_with fail
        exact ⟨⟨i + 1, by omega, by go_num, by rw [← hps.out], HO'.out, HB'.out⟩, by simp [intOf]; omega⟩
      · obtain rfl : i = k := by omega
        have hA := HA.out.upto HBL.out (by omega)
        have hR := HR.out.upto HBL.out (by omega)
        have HWR : Hid (w.heap.size + 2 ≤ wr.heap.size) := by have := HBL.out.size; show _ ≤ _; omega
        have HBW : Hid (Below w.heap.size w wr) := HB.out.trans (HBL.out.mono (by omega))
        have HA2 := Lib.hid hA
        have HR2 := Lib.hid hR
        have hpos : (0 : Int) < 256 ^ i := Int.pow_pos (by omega)
        by_cases hbig : 0 < n / 256 ^ i
        · have hle : (256 : Int) ^ i ≤ n := by
            have h1 := (Int.le_ediv_iff_mul_le hpos).1 (show (1 : Int) ≤ n / 256 ^ i by omega)
            simpa using h1
          have HE : Hid (LL = l ∧ FF = true) := ⟨HLL.out.trans (if_pos hle), HFF.out.trans (by unfold numF; simp [hle])⟩
          obtain ⟨c0, c1, f0, f1⟩ := hA.two
          obtain ⟨d0, d1, g0, g1⟩ := hR.two
          generalize n / 256 ^ i = q at hbig ⊢
          clear hA hR hle hpos
          go_wp2_with fail
          have hRO : Blk (wr.setCell ⟨w.heap.size, 1, none⟩ (.bool true)) (w.heap.size + 1) (.cells #[.slice none 0 0, .bool false] 122) := HR2.out.setOther (p := ⟨w.heap.size, 1, none⟩) (by show w.heap.size ≠ _; omega) _
          have hRF : Blk (((wr.setCell ⟨w.heap.size, 1, none⟩ (.bool true)).setCell ⟨w.heap.size + 1, 0, none⟩ (.slice a m cap)).setCell ⟨w.heap.size + 1, 1, none⟩ (.bool true)) (w.heap.size + 1) (.cells #[.slice a m cap, .bool true] 122) :=
            (hRO.set 0 (.slice a m cap)).set 1 (.bool true)
          have hsz := HWR.out
          have hTA := ((Turn.same HA2.out).set 1 (.bool true)).below (B := w.heap.size) (Nat.le_refl _) (by omega)
          have hTR := (((Turn.same hRO).set 0 (.slice a m cap)).set 1 (.bool true)).below (B := w.heap.size) (by omega) (by simp; omega)
          have hBF := (HBW.out.trans hTA).trans hTR
          refine bodyPost_ret (v := routV (.slice a m cap) true) (results_cell_row Tryd.results55 _ _ (w.heap.size + 1) 122 #[.slice a m cap, .bool true] (0, 0) _ rfl hRF Tryd.underlying122 rfl info28) rfl ⟨_, by rw [HE.out.2], by rw [HE.out.1]; exact (H.out.keep hBF).mono (by have := hBF.size; omega), .inl rfl, hBF⟩
        · have hle : ¬ (256 : Int) ^ i ≤ n := fun h => hbig (by
            have h1 := (Int.le_ediv_iff_mul_le hpos).2 (show (1 : Int) * 256 ^ i ≤ n by omega)
            omega)
          have HE : Hid (LL = l ++ digs n i ∧ FF = f) := ⟨HLL.out.trans (if_neg hle), HFF.out.trans (by unfold numF; rw [decide_eq_false hle, Bool.or_false])⟩
          have HBA := Lib.hid (H.out.keep HBW.out)
          have hu7 : Hid (∀ g, u7.ownBlock = some g → g < wr.heap.size) := fun g hg => (HROW.out.lt g hg).2
          obtain ⟨c0, c1, f0, f1⟩ := hA.two
          generalize n / 256 ^ i = q at hbig ⊢
          clear hA hR hle hpos
          go_wp2_with (at_builtin; refine wpList_append_holdsF rfl _ _ rfl wr.heap.size _ _ _ rfl (World.ownsRow_nil _ _ _ _) M _ l rfl HBA.out ?c0 ?c1 ?_)
          case c0 => omega
          intro v1 w1 ho1 hg1
          have hB1 : Below wr.heap.size wr w1 := (Below.refl _ wr).grown hg1 (Nat.le_refl _) (fun k hk => by simp [Value.ownBlock] at hk)
          have HU1 := Lib.hid (ownsRow_below HROW.out hB1)
          have HO1 : Hid (w1.ownsRow wr.heap.size 5 1 v1 l.length (bv l)) := by
            have h1 := ho1
            show World.ownsRow _ _ _ _ _ _ _
            simpa using h1
          have HA3 := Lib.hid (HA2.out.keep hB1)
          have HR3 := Lib.hid (HR2.out.keep hB1)
          have HW3 : Hid (Below w.heap.size w w1) := HBW.out.trans (hB1.mono (by have := HWR.out; omega))
          have HZ3 : Hid (wr.heap.size ≤ w1.heap.size) := hB1.size
          clear ho1 hg1 hB1 c0 c1 f0 f1 HA2 HR2
          generalize wr.heap.size = B2 at HU1 HO1 HWR hu7 HZ3 ⊢
          have hi8 : (i : Int) ≤ 8 := by omega
          go_wp2_with fail
          go_loopw [10, 11] (fun row c wq => ∃ j : Nat, j ≤ i ∧ c = .int .i64 ((i : Int) - 1 - j) ∧ wq.ownsRow B2 5 1 row (l.length + j) (bv (l ++ (digs n i).take j)) ∧ wq.ownsRow (w.heap.size + 2) 5 1 u7 i (bv (lows n i)) ∧ Below B2 w1 wq) (fun _ c _ => (intOf c + 1).toNat)
          case atStart => exact ⟨0, by omega, by go_num, by simpa using HO1.out, HU1.out, Below.refl _ _⟩
          case round =>
            obtain ⟨j, hj, rfl, hrow, hu, hbel⟩ := hrel
            have HR5 := Lib.hid hrow
            have HU5 := Lib.hid hu
            have HB5 := Lib.hid hbel
            clear hrow hbel
            by_cases hlt2 : j < i
            · obtain ⟨t, ht, hti⟩ : ∃ t : Nat, (i : Int) - 1 - j = t ∧ i = t + 1 + j := ⟨i - 1 - j, by omega, by omega⟩
              rw [ht]
              have hsh : ∃ g cap, u7 = .slice (some ⟨g, 0, none⟩) i cap := by
                rcases hu.2 with ⟨_, h0⟩ | ⟨g, cap, cur, h1, _⟩
                · omega
                · exact ⟨g, cap, h1⟩
              obtain ⟨g, cap7, rfl⟩ := hsh
              have hgB := hu7.out g rfl
              have hc : wr.cell? ⟨g, t, none⟩ = some (.int .u8 (n / 256 ^ t % 256)) := (hu.cellAt t (by omega)).trans (lows_at (by omega))
              have hdt0 := digs_take (n := n) (k := i) (i := j) (by omega)
              rw [show i - 1 - j = t by omega] at hdt0
              have hdt := Lib.hid hdt0
              have hx : 0 ≤ n / 256 ^ t % 256 ∧ n / 256 ^ t % 256 ≤ 255 := by omega
              have HX := Lib.hid hx
              have HJ : Hid (j + 1 ≤ i ∧ (t : Int) - 1 = (i : Int) - 1 - ((j + 1 : Nat) : Int)) := ⟨by omega, by omega⟩
              have htl : (t : Int) < i := by omega
              have ht8 : (t : Int) ≤ 8 := by omega
              have HZ5 : Hid (B2 ≤ wr.heap.size) := by have := HB5.out.size; have := HZ3.out; show _ ≤ _; omega
              have HL : Hid (l.length + j + 1 ≤ 140737488355328) := by show _ ≤ _; omega
              generalize n / 256 ^ t % 256 = x at hc hx HX hdt
              clear hdt0 hx hu ht hti
              go_wp2_with (at_builtin; refine wpList_append_holdsF rfl _ _ rfl B2 u10 (l.length + j) (bv (l ++ (digs n i).take j)) rfl (World.ownsRow.alloc HR5.out _) (wr.heap.size + 1) _ [x] rfl (HoldsB.one wr x HX.out.1 HX.out.2) (by have := HL.out; simp; omega) (by have := HZ5.out; simp; omega) ?_)
              intro v' w' ho hg
              have HB' : Hid (Below B2 w1 w') := (HB5.out.trans ((more (Below.refl _ wr) _).mono HZ5.out)).grown hg (by have := HZ5.out; simp; omega) (fun k hk => (HR5.out.lt k hk).1)
              have HU' : Hid (w'.ownsRow (w.heap.size + 2) 5 1 (.slice (some ⟨g, 0, none⟩) i cap7) i (bv (lows n i))) := (HU5.out.alloc _).kept hg (.inr (fun e => by have := (HR5.out.lt g e.symm).1; omega))
              have HO' : Hid (w'.ownsRow B2 5 1 v' (l.length + (j + 1)) (bv (l ++ (digs n i).take (j + 1)))) := by
                have h1 := ho
                show World.ownsRow _ _ _ _ _ _ _
                rw [hdt.out]
                simpa [Nat.add_assoc] using h1
              clear ho hg
              go_wp2_with fail
              exact ⟨⟨j + 1, HJ.out.1, by rw [HJ.out.2], HO'.out, HU'.out, HB'.out⟩, by simp [intOf]⟩
            · obtain rfl : j = i := by omega
              have HL2 : Hid (wr.ownsRow B2 5 1 u10 (l ++ digs n j).length (bv (l ++ digs n j))) := by
                have h1 := HR5.out
                rw [List.take_of_length_le (by rw [digs_len]; omega)] at h1
                show World.ownsRow _ _ _ _ _ _ _
                rw [List.length_append, digs_len]
                exact h1
              obtain ⟨a5, n5, c5, rfl⟩ := row_shapeF HL2.out
              have HA4 := Lib.hid (HA3.out.upto HB5.out (by have := HWR.out; omega))
              have HR4 := Lib.hid (HR3.out.upto HB5.out (by have := HWR.out; omega))
              have HW4 : Hid (Below w.heap.size w wr) := HW3.out.trans (HB5.out.mono (by have := HWR.out; omega))
              have hA4 := HA4.out
              have hR4 := HR4.out
              obtain ⟨c0, c1, f0, f1⟩ := Blk.two hA4
              obtain ⟨d0, d1, g0, g1⟩ := Blk.two hR4
              have hm1 : ¬ (0 : Int) ≤ (j : Int) - 1 - j := by omega
              clear hu hA4 hR4
              go_wp2_with fail
              have hsA : w.heap.size < wr.heap.size := Blk.lt HA4.out
              have hRO : Blk (wr.setCell ⟨w.heap.size, 0, none⟩ (.slice a5 n5 c5)) (w.heap.size + 1) (.cells #[.slice none 0 0, .bool false] 122) := HR4.out.setOther (p := ⟨w.heap.size, 0, none⟩) (by show w.heap.size ≠ _; omega) _
              have hRF : Blk (((wr.setCell ⟨w.heap.size, 0, none⟩ (.slice a5 n5 c5)).setCell ⟨w.heap.size + 1, 0, none⟩ (.slice a5 n5 c5)).setCell ⟨w.heap.size + 1, 1, none⟩ (.bool f)) (w.heap.size + 1) (.cells #[.slice a5 n5 c5, .bool f] 122) :=
                (hRO.set 0 (.slice a5 n5 c5)).set 1 (.bool f)
              have hTA := ((Turn.same HA4.out).set 0 (.slice a5 n5 c5)).below (B := w.heap.size) (Nat.le_refl _) (by omega)
              have hTR := (((Turn.same hRO).set 0 (.slice a5 n5 c5)).set 1 (.bool f)).below (B := w.heap.size) (by omega) (by simpa using Nat.le_of_lt hsA)
              have hB2 := HWR.out
              have hrow := ownsRow_setCell_below (ownsRow_setCell_below (ownsRow_setCell_below HL2.out (a := ⟨w.heap.size, 0, none⟩) (by show w.heap.size < _; omega) (.slice a5 n5 c5)) (a := ⟨w.heap.size + 1, 0, none⟩) (by show w.heap.size + 1 < _; omega) (.slice a5 n5 c5)) (a := ⟨w.heap.size + 1, 1, none⟩) (by show w.heap.size + 1 < _; omega) (.bool f)
              refine bodyPost_ret (v := routV (.slice a5 n5 c5) f) (results_cell_row Tryd.results55 _ _ (w.heap.size + 1) 122 #[.slice a5 n5 c5, .bool f] (0, 0) _ rfl hRF Tryd.underlying122 rfl info28) rfl ⟨_, by rw [HE.out.2], by rw [HE.out.1]; exact HoldsB.ofRow (H.out.bytes.append (digs_bytes _ _)) hrow, .inr (by rw [HE.out.1]; exact row_monoF hrow (by have := HWR.out; omega)), (HW4.out.trans hTA).trans hTR⟩
end Go.Proofs.YtgabjmmmiogfjaaDoor

namespace Go.Proofs.YtgabjmmmiogfjaaDoor
open Go.RowKit

theorem rraw_out (M : Nat) (v s : Value) (l p : List Int) (f : Bool) (w : World) (h : HoldsB w M v l) (hs : HoldsB w M s p) (hlen : l.length + p.length ≤ 1099511627776) :
    Calls Tryd.prog 57 #[routV v f, s] w (ROutPost v (l ++ p) f w) :=
  (rraw_any M v s l p f w h hs hlen).mono fun _ _ ⟨v', e, ho, hb⟩ => ⟨v', e, HoldsB.ofRow (h.bytes.append hs.bytes) ho, .inr ho, hb⟩
set_option maxHeartbeats 3200000 in
theorem roblob_any (M : Nat) (v s : Value) (l p : List Int) (f : Bool) (w : World) (h : HoldsB w M v l) (hs : HoldsB w M s p) (hM : M ≤ w.heap.size) (hlen : l.length ≤ 1000000000) :
    Calls Tryd.prog 76 #[routV v f, s] w (ROutPost v (if 4096 < p.length then l else l ++ digs p.length 2 ++ p) (f || decide (4096 < p.length)) w) := by
  have H := Lib.hid h
  have HS := Lib.hid hs
  obtain ⟨a, m, cap, rfl, -⟩ := h.slice
  obtain ⟨a2, m2, cap2, rfl, hm2⟩ := hs.slice
  have hpl := hs.len
  unfold maxLen at hpl
  have HM2 := Lib.hid hm2
  have hm3 : m2 ≤ 9223372036854775807 := by omega
  obtain ⟨LL, hLL⟩ : ∃ x, x = (if 4096 < p.length then l else l ++ digs p.length 2 ++ p) := ⟨_, rfl⟩
  obtain ⟨FF, hFF⟩ : ∃ x, x = (f || decide (4096 < p.length)) := ⟨_, rfl⟩
  rw [← hLL, ← hFF]
  have HLL := Lib.hid hLL
  have HFF := Lib.hid hFF
  have HB : Hid (Below w.heap.size w ((w.alloc (.cells #[.slice a m cap, .bool f] 122)).alloc (.cells #[.slice none 0 0, .bool false] 122))) := more (more (Below.refl _ _) _) _
  have hA : Blk ((w.alloc (.cells #[.slice a m cap, .bool f] 122)).alloc (.cells #[.slice none 0 0, .bool false] 122)) w.heap.size (.cells #[.slice a m cap, .bool f] 122) := (Blk.new _ _).old _
  have hR : Blk ((w.alloc (.cells #[.slice a m cap, .bool f] 122)).alloc (.cells #[.slice none 0 0, .bool false] 122)) (w.heap.size + 1) (.cells #[.slice none 0 0, .bool false] 122) := Blk.newAt _ (by simp)
  have HA := Lib.hid hA
  have HR := Lib.hid hR
  have hs2 : ((w.alloc (.cells #[.slice a m cap, .bool f] 122)).alloc (.cells #[.slice none 0 0, .bool false] 122)).heap.size = w.heap.size + 2 := by simp
  clear h hs hLL hFF hpl
  by_cases hbig : 4096 < m2
  · have HE : Hid (LL = l ∧ FF = true) := ⟨HLL.out.trans (if_pos (by omega)), HFF.out.trans (by rw [decide_eq_true (by omega), Bool.or_true])⟩
    clear hm2
    go_enter Tryd.func76, Tryd.ntmps76
    go_wp2_with fail
    have hE2 := HE.out
    have hBF : Below w.heap.size w ((w.alloc (.cells #[.slice a m cap, .bool true] 122)).alloc (.cells #[.slice a m cap, .bool true] 122)) := more (more (Below.refl _ _) _) _
    have hRF : Blk ((w.alloc (.cells #[.slice a m cap, .bool true] 122)).alloc (.cells #[.slice a m cap, .bool true] 122)) (w.heap.size + 1) (.cells #[.slice a m cap, .bool true] 122) := Blk.newAt _ (by simp)
    refine bodyPost_ret (v := routV (.slice a m cap) true) (results_cell_row Tryd.results76 _ _ (w.heap.size + 1) 122 #[.slice a m cap, .bool true] (0, 0) _ rfl hRF Tryd.underlying122 rfl info28) rfl ⟨_, by rw [hE2.2], by rw [hE2.1]; exact (H.out.keep hBF).mono (by have := hBF.size; omega), .inl rfl, hBF⟩
  · have hE : Hid (LL = l ++ digs p.length 2 ++ p ∧ FF = f ∧ numF f p.length 2 = f ∧ ¬ (256 : Int) ^ 2 ≤ p.length) := by
      have h2 : ¬ (256 ^ 2 : Int) ≤ p.length := by simp; omega
      exact ⟨HLL.out.trans (if_neg (by omega)), HFF.out.trans (by rw [decide_eq_false (by omega), Bool.or_false]), by unfold numF; rw [decide_eq_false h2, Bool.or_false], h2⟩
    clear hm2
    go_enter Tryd.func76, Tryd.ntmps76
    go_wp2_with fail
    generalize (w.alloc (.cells #[.slice a m cap, .bool f] 122)).alloc (.cells #[.slice none 0 0, .bool false] 122) = W at HB HA HR hA hR hs2 ⊢
    refine (rnum_any M _ l f m2 2 W (H.out.keep HB.out) (by omega) (by omega) (by omega) (by omega) (by omega)).mono ?_
    rintro r w1 ⟨v1, rfl, h1, -, hb1⟩
    rw [HM2.out, if_neg (show ¬ (256 : Int) ^ 2 ≤ p.length by have := hE.out.2.2.2; omega)] at h1
    rw [show numF f (m2 : Int) 2 = f by rw [HM2.out]; exact hE.out.2.2.1]
    have H1 := Lib.hid h1
    have HB1 : Hid (Below w.heap.size w w1) := HB.out.trans (hb1.mono (by omega))
    have HR1 := Lib.hid (hR.keep hb1)
    clear h1
    go_wp2_with fail
    refine (rraw_any w1.heap.size v1 _ _ p f w1 H1.out ((HS.out.keep HB1.out).mono (by have := HB1.out.size; omega)) ?_).mono ?_
    · rw [List.length_append, digs_len]; have := HM2.out; omega
    rintro r w2 ⟨v2, rfl, h2, hb2⟩
    have H2 := Lib.hid h2
    have HB2 : Hid (Below w.heap.size w w2) := HB1.out.trans (hb2.mono (by have := HB1.out.size; omega))
    have hR2 := HR1.out.keep hb2
    have HR2 := Lib.hid hR2
    obtain ⟨a5, n5, c5, rfl⟩ := row_shapeF h2
    have hs1 := HR1.out.lt
    obtain ⟨d0, d1, g0, g1⟩ := hR2.two
    have lt2 := hR2.lt
    clear h2 hb2 hR2 hA hR hb1
    go_wp2_with fail
    have hRF := (HR2.out.set 0 (.slice a5 n5 c5)).set 1 (.bool f)
    have hTR := (((Turn.same HR2.out).set 0 (.slice a5 n5 c5)).set 1 (.bool f)).below (B := w.heap.size) (by omega) (by omega)
    have hBF := HB2.out.trans hTR
    have hb := (H1.out.bytes).append HS.out.bytes
    have hrow := ownsRow_setCell_below (ownsRow_setCell_below H2.out (a := ⟨w.heap.size + 1, 0, none⟩) hs1 (.slice a5 n5 c5)) (a := ⟨w.heap.size + 1, 1, none⟩) hs1 (.bool f)
    refine bodyPost_ret (v := routV (.slice a5 n5 c5) f) (results_cell_row Tryd.results76 _ _ (w.heap.size + 1) 122 #[.slice a5 n5 c5, .bool f] (0, 0) _ rfl hRF Tryd.underlying122 rfl info28) rfl ⟨_, by rw [hE.out.2.1], by rw [hE.out.1]; exact HoldsB.ofRow hb hrow, .inr (by rw [hE.out.1]; exact row_monoF hrow (by omega)), hBF⟩
end Go.Proofs.YtgabjmmmiogfjaaDoor

namespace Go.Proofs.YtgabjmmmiogfjaaDoor
open Go.RowKit

abbrev inObj (v : Value) (e : Int) : Obj := .cells #[v, .int .i64 e] 155
/-- In block I stands an In whose bytes l lie below M, with the error e. -/
structure InIs (w : World) (M I : Nat) (l : List Int) (e : Int) : Prop where
  le : M ≤ I
  is : ∃ v, HoldsB w M v l ∧ Blk w I (inObj v e)
  none : e ≠ 0 → l = []
/-- What a call on In makes of it. -/
structure InStep (M I : Nat) (l' : List Int) (e' : Int) (w w' : World) : Prop where
  is : InIs w' M I l' e'
  turn : ∃ o, Turn I o w w'

theorem InIs.keep {w w' : World} {M I : Nat} {l : List Int} {e : Int} (h : InIs w M I l e) (hb : Below w.heap.size w w') : InIs w' M I l e := by
  obtain ⟨h1, ⟨v, hv, hB⟩, h3⟩ := h
  exact ⟨h1, ⟨v, hv.keep hb, hB.keep hb⟩, h3⟩
theorem InIs.turn {w w' : World} {M I b : Nat} {o : Obj} {l : List Int} {e : Int} (h : InIs w M I l e) (hb : Turn b o w w') (hM : M ≤ b) (hne : I ≠ b) : InIs w' M I l e := by
  obtain ⟨h1, ⟨v, hv, hB⟩, h3⟩ := h
  exact ⟨h1, ⟨v, hv.turn hb hM, hb.keep hB hne⟩, h3⟩
theorem InIs.lt {w : World} {M I : Nat} {l : List Int} {e : Int} (h : InIs w M I l e) : I < w.heap.size := by
  obtain ⟨_, ⟨v, hv, hB⟩, _⟩ := h
  exact hB.lt
theorem InIs.len {w : World} {M I : Nat} {l : List Int} {e : Int} (h : InIs w M I l e) : l.length ≤ maxLen := by
  obtain ⟨_, ⟨v, hv, hB⟩, _⟩ := h
  exact hv.len
theorem InStep.same {w : World} {M I : Nat} {l : List Int} {e : Int} (h : InIs w M I l e) : InStep M I l e w w := by
  obtain ⟨h1, ⟨v, hv, hB⟩, h3⟩ := h
  exact ⟨⟨h1, ⟨v, hv, hB⟩, h3⟩, _, Turn.same hB⟩
theorem InStep.trans {w w1 w2 : World} {M I : Nat} {l l' : List Int} {e e' : Int} (h : InStep M I l e w w1) (k : InStep M I l' e' w1 w2) : InStep M I l' e' w w2 := by
  obtain ⟨_, o, ho⟩ := h
  obtain ⟨h2, o', ho'⟩ := k
  exact ⟨h2, o', ho.trans ho'⟩
theorem InStep.more {w w1 w2 : World} {M I : Nat} {l : List Int} {e : Int} (h : InStep M I l e w w1) (k : Below w1.heap.size w1 w2) : InStep M I l e w w2 := by
  obtain ⟨h1, o, ho⟩ := h
  exact ⟨h1.keep k, o, ho.more k⟩
theorem InStep.ahead {w w1 w2 : World} {M I : Nat} {l : List Int} {e : Int} (h : Below w.heap.size w w1) (k : InStep M I l e w1 w2) : InStep M I l e w w2 := by
  obtain ⟨h1, o, ho⟩ := k
  exact ⟨h1, o, ho.ahead h⟩

theorem InIs.drew {w : World} {M I : Nat} {l : List Int} {e : Int} (h : InIs w M I l e) : InIs w.drew M I l e := ⟨h.le, h.is, h.none⟩
theorem InStep.undrew {w w' : World} {M I : Nat} {l : List Int} {e : Int} (h : InStep M I l e w.drew w') : InStep M I l e w w' := by
  obtain ⟨h1, o, ho⟩ := h
  exact ⟨h1, o, ho.os, ho.tape, ho.output, ho.size, ho.blk, ho.other⟩
theorem InIs.upto {w w' : World} {M I B : Nat} {l : List Int} {e : Int} (h : InIs w M I l e) (k : Below B w w') (hB : I < B) : InIs w' M I l e := by
  obtain ⟨h1, ⟨v, hv, hb⟩, h3⟩ := h
  exact ⟨h1, ⟨v, hv.frame k.size fun i hi _ => k.block i (by omega), hb.upto k hB⟩, h3⟩
theorem InStep.upto {w w1 w2 : World} {M I B : Nat} {l : List Int} {e : Int} (h : InStep M I l e w w1) (k : Below B w1 w2) (hB : w.heap.size ≤ B) (hI : I < w.heap.size) : InStep M I l e w w2 := by
  obtain ⟨h1, o, ho⟩ := h
  exact ⟨h1.upto k (by omega), o, ho.upto k hB hI⟩
theorem InStep.size {w w1 : World} {M I : Nat} {l : List Int} {e : Int} (h : InStep M I l e w w1) : w.heap.size ≤ w1.heap.size := by
  obtain ⟨h1, o, ho⟩ := h
  exact ho.size
theorem InStep.keep {w w1 : World} {M I b : Nat} {l : List Int} {e : Int} {o : Obj} (h : InStep M I l e w w1) (hb : Blk w b o) (hne : b ≠ I) : Blk w1 b o := by
  obtain ⟨h1, o, ho⟩ := h
  exact ho.keep hb hne

set_option maxHeartbeats 400000 in
theorem left_any (M I : Nat) (l : List Int) (e : Int) (w : World) (h : InIs w M I l e) :
    Calls Tryd.prog 94 #[.pointer (some ⟨I, 0, none⟩)] w fun r w' => r = .returned (.int .i64 l.length) ∧ w = w' := by
  obtain ⟨_, ⟨v, hv, hB⟩, _⟩ := h
  obtain ⟨c0, c1, -⟩ := hB.two
  obtain ⟨a, cap, rfl, h2, h3, -⟩ := hv
  unfold maxLen at h3
  have h4 : l.length ≤ 9223372036854775807 := by omega
  clear hB h2 h3
  go_enter Tryd.func94, Tryd.ntmps94
  go_wp2_with fail
  go_ret
  exact ⟨rfl, rfl⟩

set_option maxHeartbeats 400000 in
theorem err_any (M I : Nat) (l : List Int) (e : Int) (w : World) (h : InIs w M I l e) :
    Calls Tryd.prog 95 #[.pointer (some ⟨I, 0, none⟩)] w fun r w' => r = .returned (.int .i64 e) ∧ w = w' := by
  obtain ⟨_, ⟨v, hv, hB⟩, _⟩ := h
  obtain ⟨c0, c1, -⟩ := hB.two
  clear hB hv
  go_enter Tryd.func95, Tryd.ntmps95
  go_wp2_with fail
  go_ret
  exact ⟨rfl, rfl⟩

/-- What Fail makes of the bytes and the error. -/
def failL (l : List Int) (e f : Int) : List Int := if e = 0 ∧ f ≠ 0 then [] else l
def failE (e f : Int) : Int := if e = 0 ∧ f ≠ 0 then f else e

theorem failL_no {l : List Int} {e f : Int} (h : e ≠ 0 ∨ f = 0) : failL l e f = l := if_neg (by omega)
theorem failE_no {e f : Int} (h : e ≠ 0 ∨ f = 0) : failE e f = e := if_neg (by omega)
theorem failL_yes {l : List Int} {e f : Int} (h : e = 0) (h2 : f ≠ 0) : failL l e f = [] := if_pos ⟨h, h2⟩
theorem failE_yes {e f : Int} (h : e = 0) (h2 : f ≠ 0) : failE e f = f := if_pos ⟨h, h2⟩

set_option maxHeartbeats 400000 in
theorem fail_any (M I : Nat) (l : List Int) (e f : Int) (w : World) (h : InIs w M I l e) :
    Calls Tryd.prog 61 #[.pointer (some ⟨I, 0, none⟩), .int .i64 f] w fun r w' => r = .returned (.tuple #[]) ∧ InStep M I (failL l e f) (failE e f) w w' := by
  have H := Lib.hid h
  have hM := h.le
  obtain ⟨_, ⟨v, hv, hB⟩, _⟩ := h
  obtain ⟨c0, c1, f0, f1⟩ := hB.two
  have HB := Lib.hid hB
  have lI := hB.lt
  clear hB hv
  by_cases he : e = 0
  · by_cases hf : f = 0
    · have HP : Hid (InStep M I (failL l e f) (failE e f) w w) := by
        unfold Hid
        rw [failL_no (.inr hf), failE_no (.inr hf)]
        exact InStep.same H.out
      have t0 : (e == 0) = true := by simp [he]
      have t1 : (f == 0) = true := by simp [hf]
      clear he hf
      go_enter Tryd.func61, Tryd.ntmps61
      go_wp2_with fail
      go_end0
      exact ⟨rfl, HP.out⟩
    · have HP : Hid (InStep M I (failL l e f) (failE e f) w ((w.setCell ⟨I, 0, none⟩ (.slice none 0 0)).setCell ⟨I, 1, none⟩ (.int .i64 f))) := by
        unfold Hid
        rw [failL_yes he hf, failE_yes he hf]
        have hT : Turn I (inObj (.slice none 0 0) f) w ((w.setCell ⟨I, 0, none⟩ (.slice none 0 0)).setCell ⟨I, 1, none⟩ (.int .i64 f)) := (((Turn.same HB.out).set 0 _).set 1 _).as rfl
        exact ⟨⟨hM, ⟨_, HoldsB.nil _ _, hT.blk⟩, fun _ => rfl⟩, _, hT⟩
      have t0 : (e == 0) = true := by simp [he]
      have t1 : (f == 0) = false := by simp [hf]
      clear he hf
      go_enter Tryd.func61, Tryd.ntmps61
      go_wp2_with fail
      go_end0
      exact ⟨rfl, HP.out⟩
  · have HP : Hid (InStep M I (failL l e f) (failE e f) w w) := by
      unfold Hid
      rw [failL_no (.inl he), failE_no (.inl he)]
      exact InStep.same H.out
    have t0 : (e == 0) = false := by simp [he]
    clear he
    go_enter Tryd.func61, Tryd.ntmps61
    go_wp2_with fail
    go_end0
    exact ⟨rfl, HP.out⟩

/-- What next makes of the bytes and the error, and what it answers. -/
def nextE (l : List Int) (e : Int) (k : Nat) : Int := if e = 0 ∧ l.length < k then 9 else e
def nextL (l : List Int) (e : Int) (k : Nat) : List Int := if e = 0 ∧ k ≤ l.length then l.drop k else []
def nextP (l : List Int) (e : Int) (k : Nat) : List Int := if e = 0 ∧ k ≤ l.length then l.take k else []

set_option maxHeartbeats 1600000 in
theorem next_any (M I : Nat) (l : List Int) (e : Int) (k : Nat) (w : World) (h : InIs w M I l e) (hk : k ≤ 9223372036854775807) :
    Calls Tryd.prog 105 #[.pointer (some ⟨I, 0, none⟩), .int .i64 k] w fun r w' => ∃ v, r = .returned v ∧ HoldsB w' M v (nextP l e k) ∧ InStep M I (nextL l e k) (nextE l e k) w w' := by
  have H := Lib.hid h
  have hM := h.le
  have hll := h.len
  unfold maxLen at hll
  by_cases hs : l.length < k
  · have H2 : Hid (∀ w', InStep M I (failL l e 9) (failE e 9) w w' → InStep M I (nextL l e k) (nextE l e k) w w' ∧ nextP l e k = []) := by
      intro w' h'
      have h1 : nextL l e k = failL l e 9 := by
        unfold nextL failL
        rw [if_neg (by omega)]
        by_cases he : e = 0
        · rw [if_pos ⟨he, by decide⟩]
        · rw [if_neg (by omega), H.out.none he]
      have h2 : nextE l e k = failE e 9 := by
        unfold nextE failE
        by_cases he : e = 0
        · rw [if_pos ⟨he, hs⟩, if_pos ⟨he, by decide⟩]
        · rw [if_neg (by omega), if_neg (by omega)]
      rw [h1, h2]
      exact ⟨h', by unfold nextP; rw [if_neg (by omega)]⟩
    have HE : Hid (failE e 9 ≠ 0) := by unfold Hid failE; split <;> omega
    have hs' : (l.length : Int) < k := by omega
    clear hs h
    go_enter Tryd.func105, Tryd.ntmps105
    go_wp2_with fail
    refine (left_any M I l e _ H.out).mono ?_
    rintro r w1 ⟨rfl, rfl⟩
    go_wp2_with fail
    refine (fail_any M I l e 9 _ H.out).mono ?_
    rintro r w1 ⟨rfl, h1⟩
    have H1 := Lib.hid h1
    clear h1
    go_wp2_with fail
    refine (err_any M I _ _ _ H1.out.is).mono ?_
    rintro r w2 ⟨rfl, rfl⟩
    have t0 : (failE e 9 == 0) = false := by simpa using HE.out
    generalize failE e 9 = q at *
    go_wp2_with fail
    go_ret
    exact ⟨_, rfl, by rw [(H2.out _ H1.out).2]; exact HoldsB.nil _ _, (H2.out _ H1.out).1⟩
  · have hs' : (k : Int) ≤ l.length := by omega
    by_cases he : e = 0
    · obtain ⟨_, ⟨v, hv, hB⟩, _⟩ := h
      obtain ⟨v1, hv1, hp1⟩ := hv.front (k := k) (by omega)
      obtain ⟨v2, hv2, hp2⟩ := hv.back (k := k) (by omega)
      obtain ⟨a2, n2, cap2, rfl, -⟩ := hp2.slice
      obtain ⟨c0, c1, f0, f1⟩ := hB.two
      have lI := hB.lt
      have HP : Hid (HoldsB (w.setCell ⟨I, 0, none⟩ (.slice a2 n2 cap2)) M v1 (nextP l e k) ∧ InStep M I (nextL l e k) (nextE l e k) w (w.setCell ⟨I, 0, none⟩ (.slice a2 n2 cap2))) := by
        have hT : Turn I (inObj (.slice a2 n2 cap2) e) w (w.setCell ⟨I, 0, none⟩ (.slice a2 n2 cap2)) := ((Turn.same hB).set 0 _).as rfl
        unfold Hid nextP nextL nextE
        rw [if_pos ⟨he, by omega⟩, if_pos ⟨he, by omega⟩, if_neg (by omega)]
        exact ⟨hp1.turn hT hM, ⟨hM, ⟨_, hp2.turn hT hM, hT.blk⟩, fun h => absurd he h⟩, _, hT⟩
      have t0 : (e == 0) = true := by simp [he]
      clear hB hp1 hp2 hs he hv
      go_enter Tryd.func105, Tryd.ntmps105
      go_wp2_with fail
      refine (left_any M I l e _ H.out).mono ?_
      rintro r w1 ⟨rfl, rfl⟩
      go_wp2_with fail
      refine (err_any M I _ _ _ H.out).mono ?_
      rintro r w2 ⟨rfl, rfl⟩
      go_wp2_with fail
      go_ret
      exact ⟨_, rfl, HP.out⟩
    · have hl := h.none he
      have HP : Hid (HoldsB w M (.slice none 0 0) (nextP l e k) ∧ InStep M I (nextL l e k) (nextE l e k) w w) := by
        unfold Hid nextP nextL nextE
        rw [if_neg (by omega), if_neg (by omega), if_neg (by omega)]
        exact ⟨HoldsB.nil _ _, hl ▸ InStep.same h⟩
      have t0 : (e == 0) = false := by simp [he]
      clear hs he h hl
      go_enter Tryd.func105, Tryd.ntmps105
      go_wp2_with fail
      refine (left_any M I l e _ H.out).mono ?_
      rintro r w1 ⟨rfl, rfl⟩
      go_wp2_with fail
      refine (err_any M I _ _ _ H.out).mono ?_
      rintro r w2 ⟨rfl, rfl⟩
      go_wp2_with fail
      go_ret
      exact ⟨_, rfl, HP.out⟩
end Go.Proofs.YtgabjmmmiogfjaaDoor

namespace Go.Proofs.YtgabjmmmiogfjaaDoor
open Go.RowKit

/-- The number whose bytes are these, the highest first. -/
def numOf (l : List Int) : Int := l.foldl (fun n b => (n * 256 + b) % 18446744073709551616) 0
theorem numOf_nil : numOf [] = 0 := rfl
theorem numOf_snoc (l : List Int) (b : Int) : numOf (l ++ [b]) = (numOf l * 256 + b) % 18446744073709551616 := by
  unfold numOf; rw [List.foldl_append]; rfl
theorem numOf_take {l : List Int} {i : Nat} (h : i < l.length) : numOf (l.take (i + 1)) = (numOf (l.take i) * 256 + l.getD i 0) % 18446744073709551616 := by
  rw [List.take_succ_eq_append_getElem h, numOf_snoc, List.getD_eq_getElem?_getD, List.getElem?_eq_getElem h]; rfl
theorem numOf_range (l : List Int) (hb : Bytes l) : 0 ≤ numOf l ∧ numOf l < 18446744073709551616 := by
  unfold numOf
  suffices h : ∀ (l : List Int) (a : Int), 0 ≤ a → a < 18446744073709551616 → 0 ≤ l.foldl (fun n b => (n * 256 + b) % 18446744073709551616) a ∧ l.foldl (fun n b => (n * 256 + b) % 18446744073709551616) a < 18446744073709551616 from h l 0 (by decide) (by decide)
  intro l
  induction l with
  | nil => intro a h1 h2; exact ⟨h1, h2⟩
  | cons b r ih => intro a h1 h2; exact ih _ (Int.emod_nonneg _ (by decide)) (Int.emod_lt_of_pos _ (by decide))
theorem wrap_u64 (a : Int) : IntKind.u64.wrap a = a % 18446744073709551616 := by
  simp [IntKind.wrap, IntKind.bits, IntKind.signed]
theorem or_step (m x : Int) (h0 : 0 ≤ x) (h1 : x ≤ 255) : bits .or .u64 (IntKind.u64.wrap (m * 256)) (IntKind.u64.wrap x) = (m * 256 + x) % 18446744073709551616 := by
  rw [wrap_u64, wrap_u64]
  have hx : x % 18446744073709551616 = x := by omega
  rw [hx, u64_or _ _ (by omega) (by omega) h0 (by omega)]
  obtain ⟨q, hq⟩ : ∃ q : Nat, m * 256 % 18446744073709551616 = ((256 * q : Nat) : Int) := ⟨(m * 256 % 18446744073709551616 / 256).toNat, by omega⟩
  obtain ⟨y, rfl⟩ : ∃ y : Nat, x = y := ⟨x.toNat, by omega⟩
  rw [hq]
  have hor : 256 * q ||| y = 256 * q + y := by
    have := Nat.two_pow_add_eq_or_of_lt (i := 8) (b := y) (by omega) q
    simpa using this.symm
  simp only [Int.toNat_natCast]
  rw [hor]
  omega
theorem add_step (m x : Int) (h0 : 0 ≤ x) (h1 : x ≤ 255) : IntKind.u64.wrap (IntKind.u64.wrap (m * 256) + IntKind.u64.wrap x) = (m * 256 + x) % 18446744073709551616 := by
  rw [wrap_u64, wrap_u64, wrap_u64]
  omega
theorem numOf_one {l : List Int} (h : l.length ≤ 1) (hb : Bytes l) : 0 ≤ numOf l ∧ numOf l ≤ 255 := by
  match l, h with
  | [], _ => decide
  | [a], _ =>
    have := hb a (by simp)
    simp only [numOf, List.foldl_cons, List.foldl_nil]
    omega
theorem numOf_two {l : List Int} (h : l.length ≤ 2) (hb : Bytes l) : 0 ≤ numOf l ∧ numOf l ≤ 65535 := by
  match l, h with
  | [], _ => decide
  | [a], _ =>
    have := hb a (by simp)
    simp only [numOf, List.foldl_cons, List.foldl_nil]
    omega
  | [a, b], _ =>
    have := hb a (by simp)
    have := hb b (by simp)
    simp only [numOf, List.foldl_cons, List.foldl_nil]
    omega
end Go.Proofs.YtgabjmmmiogfjaaDoor

namespace Go.Proofs.YtgabjmmmiogfjaaDoor
open Go.RowKit

set_option maxHeartbeats 1600000 in
theorem number_any (M I : Nat) (l : List Int) (e : Int) (k : Nat) (w : World) (h : InIs w M I l e) (hk : k ≤ 8) :
    Calls Tryd.prog 92 #[.pointer (some ⟨I, 0, none⟩), .int .i64 k] w fun r w' => r = .returned (.int .u64 (numOf (nextP l e k))) ∧ InStep M I (nextL l e k) (nextE l e k) w w' := by
  go_enter Tryd.func92, Tryd.ntmps92
  go_wp2_with fail
  refine (next_any M I l e k _ h (by omega)).mono ?_
  rintro r w1 ⟨v, rfl, hp, h1⟩
  have H1 := Lib.hid h1
  have hlen : (nextP l e k).length ≤ 8 := by unfold nextP; split <;> simp <;> omega
  obtain ⟨p, hpe⟩ : ∃ p, nextP l e k = p := ⟨_, rfl⟩
  rw [hpe] at hp hlen
  have HPE := Lib.hid hpe
  clear hpe
  obtain ⟨a, n, cap, rfl, hn⟩ := hp.slice
  have HP := Lib.hid hp
  have HN := Lib.hid hn
  have hn8 : n ≤ 8 := by omega
  clear h h1 hp hn hlen
  go_wp2_with fail
  go_loop [5, 12] (fun m c => ∃ i : Nat, i ≤ n ∧ c = .int .i64 i ∧ m = .int .u64 (numOf (p.take i))) (fun _ c => n - (intOf c).toNat)
  case atStart => exact ⟨0, by omega, rfl, rfl⟩
  case round =>
    obtain ⟨i, hi, rfl, rfl⟩ := hrel
    by_cases hlt : i < n
    · obtain ⟨b, off, rfl, -, hc⟩ := HP.out.cellAt (i := i) (by have := HN.out; omega)
      have hx := HP.out.bytes.at (i := i) (by have := HN.out; omega)
      have HX : Hid (numOf (p.take (i + 1)) = (numOf (p.take i) * 256 + p.getD i 0) % 18446744073709551616) := numOf_take (by have := HN.out; omega)
      generalize p.getD i 0 = x at *
      have HS := Lib.hid (or_step (numOf (p.take i)) x hx.1 hx.2)
      clear hx
      go_wp2_with fail
      exact ⟨⟨i + 1, by omega, by go_num, by rw [HX.out, HS.out]⟩, by simp [intOf]; omega⟩
    · obtain rfl : i = n := by omega
      have hz : Hid (numOf (p.take i) = numOf (nextP l e k)) := by unfold Hid; rw [HPE.out, HN.out, List.take_length]
      go_wp2_with fail
      go_ret
      exact ⟨reti hz.out, H1.out⟩

theorem u8_any (M I : Nat) (l : List Int) (e : Int) (w : World) (h : InIs w M I l e) :
    Calls Tryd.prog 60 #[.pointer (some ⟨I, 0, none⟩)] w fun r w' => r = .returned (.int .u64 (numOf (nextP l e 1))) ∧ InStep M I (nextL l e 1) (nextE l e 1) w w' := by
  go_enter Tryd.func60, Tryd.ntmps60
  go_wp2_with fail
  refine (number_any M I l e 1 _ h (by omega)).mono ?_
  rintro r w1 ⟨rfl, h1⟩
  go_wp2_with fail
  go_ret
  exact ⟨rfl, h1⟩
theorem u32_any (M I : Nat) (l : List Int) (e : Int) (w : World) (h : InIs w M I l e) :
    Calls Tryd.prog 70 #[.pointer (some ⟨I, 0, none⟩)] w fun r w' => r = .returned (.int .u64 (numOf (nextP l e 4))) ∧ InStep M I (nextL l e 4) (nextE l e 4) w w' := by
  go_enter Tryd.func70, Tryd.ntmps70
  go_wp2_with fail
  refine (number_any M I l e 4 _ h (by omega)).mono ?_
  rintro r w1 ⟨rfl, h1⟩
  go_wp2_with fail
  go_ret
  exact ⟨rfl, h1⟩
end Go.Proofs.YtgabjmmmiogfjaaDoor

namespace Go.Proofs.YtgabjmmmiogfjaaDoor
open Go.RowKit

theorem nextP_len (l : List Int) (e : Int) (k : Nat) : (nextP l e k).length ≤ k := by unfold nextP; split <;> simp <;> omega
theorem nextP_bytes {l : List Int} (h : Bytes l) (e : Int) (k : Nat) : Bytes (nextP l e k) := by
  unfold nextP
  split
  · exact h.take k
  · exact Bytes.nil
theorem InIs.bytes {w : World} {M I : Nat} {l : List Int} {e : Int} (h : InIs w M I l e) : Bytes l := by
  obtain ⟨_, ⟨v, hv, _⟩, _⟩ := h
  exact hv.bytes

/-- What many answers, and what it makes of the bytes and the error. -/
def manyB (l : List Int) (e : Int) (k : Nat) (most : Int) : Bool := decide ((if most < 0 then 0 else most) < numOf (nextP l e k))
def manyR (l : List Int) (e : Int) (k : Nat) (most : Int) : Int := if manyB l e k most then 0 else numOf (nextP l e k)
def manyL (l : List Int) (e : Int) (k : Nat) (most : Int) : List Int := if manyB l e k most then failL (nextL l e k) (nextE l e k) 8 else nextL l e k
def manyE (l : List Int) (e : Int) (k : Nat) (most : Int) : Int := if manyB l e k most then failE (nextE l e k) 8 else nextE l e k

set_option maxHeartbeats 8000000 in
theorem many_any (M I : Nat) (l : List Int) (e : Int) (k : Nat) (most : Int) (w : World) (h : InIs w M I l e) (hk : k ≤ 2) (hm0 : -9223372036854775808 ≤ most) (hm1 : most ≤ 9223372036854775807) :
    Calls Tryd.prog 106 #[.pointer (some ⟨I, 0, none⟩), .int .i64 k, .int .i64 most] w fun r w' => r = .returned (.int .i64 (manyR l e k most)) ∧ InStep M I (manyL l e k most) (manyE l e k most) w w' := by
  have hn := numOf_two (l := nextP l e k) (by have := nextP_len l e k; omega) (nextP_bytes h.bytes e k)
  by_cases hb : manyB l e k most = true
  · have HR : Hid (manyR l e k most = 0) := by unfold Hid manyR; rw [if_pos hb]
    have HL : Hid (manyL l e k most = failL (nextL l e k) (nextE l e k) 8) := by unfold Hid manyL; rw [if_pos hb]
    have HE : Hid (manyE l e k most = failE (nextE l e k) 8) := by unfold Hid manyE; rw [if_pos hb]
    have hb' : (if most < 0 then 0 else most) < numOf (nextP l e k) := of_decide_eq_true hb
    obtain ⟨m, hm⟩ : ∃ m, numOf (nextP l e k) = m := ⟨_, rfl⟩
    rw [hm] at hb' hn
    have HM := Lib.hid hm
    clear hm hb
    by_cases hmn : most < 0
    all_goals
      first | (rw [if_pos hmn] at hb') | (rw [if_neg hmn] at hb')
      go_enter Tryd.func106, Tryd.ntmps106
      go_wp2_with fail
      refine (number_any M I l e k _ h (by omega)).mono ?_
      rintro r w1 ⟨rfl, h1⟩
      rw [HM.out]
      have H1 := Lib.hid h1
      clear h h1
      go_wp2_with fail
      refine (fail_any M I _ _ 8 _ H1.out.is).mono ?_
      rintro r w2 ⟨rfl, h2⟩
      have H2 := Lib.hid h2
      clear h2
      go_wp2_with fail
      go_ret
      exact ⟨reti HR.out.symm, by rw [HL.out, HE.out]; exact H1.out.trans H2.out⟩
  · have hb' : manyB l e k most = false := by simpa using hb
    have HL : Hid (manyL l e k most = nextL l e k) := by unfold Hid manyL; rw [if_neg hb]
    have HE : Hid (manyE l e k most = nextE l e k) := by unfold Hid manyE; rw [if_neg hb]
    have hb2 : ¬ (if most < 0 then 0 else most) < numOf (nextP l e k) := of_decide_eq_false hb'
    obtain ⟨m, hm⟩ : ∃ m, numOf (nextP l e k) = m := ⟨_, rfl⟩
    have HR : Hid (manyR l e k most = m) := by unfold Hid manyR; rw [if_neg hb, hm]
    rw [hm] at hb2 hn
    have HM := Lib.hid hm
    clear hm hb hb'
    by_cases hmn : most < 0
    all_goals
      first | (rw [if_pos hmn] at hb2) | (rw [if_neg hmn] at hb2)
      go_enter Tryd.func106, Tryd.ntmps106
      go_wp2_with fail
      refine (number_any M I l e k _ h (by omega)).mono ?_
      rintro r w1 ⟨rfl, h1⟩
      rw [HM.out]
      have H1 := Lib.hid h1
      clear h h1
      go_wp2_with fail
      go_ret
      exact ⟨reti HR.out.symm, by rw [HL.out, HE.out]; exact H1.out⟩

/-- A number of things to take. -/
theorem manyR_range {l : List Int} {e : Int} {k : Nat} {most : Int} (h : Bytes l) (hk : k ≤ 2) : 0 ≤ manyR l e k most ∧ manyR l e k most ≤ 65535 := by
  have hn := numOf_two (l := nextP l e k) (by have := nextP_len l e k; omega) (nextP_bytes h e k)
  unfold manyR
  split <;> omega
theorem InStep.bytes {w w' : World} {M I : Nat} {l : List Int} {e : Int} (h : InStep M I l e w w') : Bytes l := h.is.bytes

/-- What Blob answers. -/
def blobN (l : List Int) (e : Int) (most : Int) : Nat := (manyR l e 2 (if 4096 < most then 4096 else most)).toNat
def blobP (l : List Int) (e : Int) (most : Int) : List Int := nextP (manyL l e 2 (if 4096 < most then 4096 else most)) (manyE l e 2 (if 4096 < most then 4096 else most)) (blobN l e most)
def blobL (l : List Int) (e : Int) (most : Int) : List Int := nextL (manyL l e 2 (if 4096 < most then 4096 else most)) (manyE l e 2 (if 4096 < most then 4096 else most)) (blobN l e most)
def blobE (l : List Int) (e : Int) (most : Int) : Int := nextE (manyL l e 2 (if 4096 < most then 4096 else most)) (manyE l e 2 (if 4096 < most then 4096 else most)) (blobN l e most)

set_option maxHeartbeats 8000000 in
theorem blob_any (M I : Nat) (l : List Int) (e : Int) (most : Int) (w : World) (h : InIs w M I l e) (hm0 : -9223372036854775808 ≤ most) (hm1 : most ≤ 9223372036854775807) :
    Calls Tryd.prog 81 #[.pointer (some ⟨I, 0, none⟩), .int .i64 most] w fun r w' => ∃ v, r = .returned v ∧ (Bytes (blobP l e most) ∧ w'.ownsRow w.heap.size 5 1 v (blobP l e most).length (bv (blobP l e most))) ∧ InStep M I (blobL l e most) (blobE l e most) w w' := by
  have HH := Lib.hid h
  clear h
  obtain ⟨m, hm⟩ : ∃ m : Int, (if 4096 < most then 4096 else most) = m := ⟨_, rfl⟩
  have hmm : -9223372036854775808 ≤ m ∧ m ≤ 9223372036854775807 := by rw [← hm]; split <;> omega
  have HB : Hid (∀ w' v, (Bytes (nextP (manyL l e 2 m) (manyE l e 2 m) (manyR l e 2 m).toNat) ∧ w'.ownsRow w.heap.size 5 1 v (nextP (manyL l e 2 m) (manyE l e 2 m) (manyR l e 2 m).toNat).length (bv (nextP (manyL l e 2 m) (manyE l e 2 m) (manyR l e 2 m).toNat))) → InStep M I (nextL (manyL l e 2 m) (manyE l e 2 m) (manyR l e 2 m).toNat) (nextE (manyL l e 2 m) (manyE l e 2 m) (manyR l e 2 m).toNat) w w' →
      (Bytes (blobP l e most) ∧ w'.ownsRow w.heap.size 5 1 v (blobP l e most).length (bv (blobP l e most))) ∧ InStep M I (blobL l e most) (blobE l e most) w w') := by
    intro w' v h1 h2
    unfold blobP blobL blobE blobN
    rw [hm]
    exact ⟨h1, h2⟩
  have HR := Lib.hid (manyR_range (e := e) (most := m) HH.out.bytes (Nat.le_refl 2))
  have HC : Hid (Calls Tryd.prog 106 #[.pointer (some ⟨I, 0, none⟩), .int .i64 2, .int .i64 m] w fun r w' => r = .returned (.int .i64 (manyR l e 2 m)) ∧ InStep M I (manyL l e 2 m) (manyE l e 2 m) w w') :=
    many_any M I l e 2 m _ HH.out (by omega) hmm.1 hmm.2
  revert HB HR HC
  generalize manyL l e 2 m = lm
  generalize manyE l e 2 m = em
  generalize manyR l e 2 m = rm
  intro HB HR HC
  obtain ⟨k, rfl⟩ : ∃ k : Nat, rm = k := ⟨rm.toNat, by have := HR.out; omega⟩
  have hk : k ≤ 65535 := by have := HR.out; omega
  by_cases hlt : 4096 < most
  all_goals
    first | (rw [if_pos hlt] at hm) | (rw [if_neg hlt] at hm)
    subst hm
    first | (have hmin : min most 4096 = 4096 := by omega) | (have hmin : min most 4096 = most := by omega)
    go_enter Tryd.func81, Tryd.ntmps81
    go_wp2_with fail
    refine HC.out.mono ?_
    rintro r w1 ⟨rfl, h1⟩
    have H1 := Lib.hid h1
    clear h1
    go_wp2_with fail
    refine (next_any M I lm em k _ H1.out.is (by omega)).mono ?_
    rintro r w2 ⟨v, rfl, hv, h2⟩
    have H2 := Lib.hid h2
    have HV := Lib.hid hv
    clear h2 hv
    go_wp2_with fail
    refine (clone_anyF M v _ _ HV.out (by have := nextP_len lm em k; omega)).mono ?_
    rintro r w3 ⟨v3, rfl, hv3, hb3⟩
    have HV3 := Lib.hid hv3
    have HB3 := Lib.hid hb3
    clear hv3 hb3
    go_wp2_with fail
    go_ret
    exact ⟨_, rfl, HB.out _ _ ⟨HV.out.bytes, ownsRow_base HV3.out (Nat.le_trans H1.out.size H2.out.size)⟩ ((H1.out.trans H2.out).more HB3.out)⟩
end Go.Proofs.YtgabjmmmiogfjaaDoor

namespace Go.Proofs.YtgabjmmmiogfjaaDoor
open Go.RowKit

set_option maxHeartbeats 800000 in
theorem takeI_any (M : Nat) (v : Value) (l : List Int) (w : World) (h : HoldsB w M v l) (hr : l.length ≤ 140737488351232) :
    Calls Tryd.prog 59 #[v] w fun r w' => ∃ I, r = .returned (.pointer (some ⟨I, 0, none⟩)) ∧ w.heap.size ≤ I ∧ InIs w' I I l 0 ∧ Below w.heap.size w w' := by
  have HH := Lib.hid h
  obtain ⟨a, n, cap, rfl, hn⟩ := h.slice
  clear h hn
  go_enter Tryd.func59, Tryd.ntmps59
  go_wp2_with fail
  refine (clone_anyF M _ l _ HH.out hr).mono ?_
  rintro r w1 ⟨v, rfl, ho, hb⟩
  have HV := Lib.hid (HoldsB.ofRow HH.out.bytes ho)
  have HB := Lib.hid hb
  obtain ⟨a1, n1, cap1, rfl, -⟩ := HV.out.slice
  clear ho hb
  go_wp2_with fail
  go_ret
  exact ⟨w1.heap.size, rfl, HB.out.size, ⟨Nat.le_refl _, ⟨_, HV.out.alloc _, Blk.new _ _⟩, fun h => absurd rfl h⟩, more HB.out _⟩

/-- What End answers. -/
def endE (l : List Int) (e : Int) : Int := if 0 < l.length then failE e 10 else e

set_option maxHeartbeats 800000 in
theorem endI_any (M I : Nat) (l : List Int) (e : Int) (w : World) (h : InIs w M I l e) :
    Calls Tryd.prog 64 #[.pointer (some ⟨I, 0, none⟩)] w fun r w' => r = .returned (.int .i64 (endE l e)) ∧ ∃ l', InStep M I l' (endE l e) w w' := by
  have HH := Lib.hid h
  clear h
  by_cases hl : 0 < l.length
  · have HE : Hid (endE l e = failE e 10) := by unfold Hid endE; rw [if_pos hl]
    go_enter Tryd.func64, Tryd.ntmps64
    go_wp2_with fail
    refine (left_any M I l e _ HH.out).mono ?_
    rintro r w1 ⟨rfl, rfl⟩
    go_wp2_with fail
    refine (fail_any M I l e 10 _ HH.out).mono ?_
    rintro r w1 ⟨rfl, h1⟩
    have H1 := Lib.hid h1
    clear h1
    go_wp2_with fail
    refine (err_any M I _ _ _ H1.out.is).mono ?_
    rintro r w2 ⟨rfl, rfl⟩
    go_wp2_with fail
    go_ret
    exact ⟨reti HE.out.symm, _, by rw [HE.out]; exact H1.out⟩
  · have HE : Hid (endE l e = e) := by unfold Hid endE; rw [if_neg hl]
    have hl' : l.length = 0 := by omega
    have hl2 : (l.length : Int) ≤ 0 := by omega
    clear hl'
    go_enter Tryd.func64, Tryd.ntmps64
    go_wp2_with fail
    refine (left_any M I l e _ HH.out).mono ?_
    rintro r w1 ⟨rfl, rfl⟩
    go_wp2_with fail
    refine (err_any M I _ _ _ HH.out).mono ?_
    rintro r w2 ⟨rfl, rfl⟩
    go_wp2_with fail
    go_ret
    exact ⟨reti HE.out.symm, _, by rw [HE.out]; exact InStep.same HH.out⟩
end Go.Proofs.YtgabjmmmiogfjaaDoor
