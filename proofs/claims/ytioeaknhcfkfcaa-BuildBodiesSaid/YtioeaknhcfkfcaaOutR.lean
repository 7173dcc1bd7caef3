/-
  The document's Out: Raw, Bytes.
-/
import Derived.Test.YtioeaknhcfkfcaaOutD
namespace Go.Proofs.Ytioeaknhcfkfcaa
open Go.RowKit

/-- append of bytes that stand somewhere, to a row of the call's own. -/
theorem wpList_append_holdsF {w : World} {ops : Array Oper} {rest : List Oper} {o : Oper} {a : Act} {Q : Exit → Act → World → Prop} (hgd : o.guard = none) (s x : Operand)
    (ho : o.op = .call { callee := .builtin .append, args := #[s, x], argTypes := #[39, 39] })
    (base : Nat) (v : Value) (n : Nat) (xs : List Value) (hs : a.eval s = v) (hown : w.ownsRow base 5 1 v n xs)
    (M : Nat) (u : Value) (p : List Int) (hx : a.eval x = u) (hp : HoldsB w M u p) (h63 : n + p.length ≤ 140737488355328) (hbase : base ≤ w.heap.size)
    (h : ∀ v' w', w'.ownsRow base 5 1 v' (n + p.length) (xs ++ bv p) → w.grownBy w' v.ownBlock → wpList Try.prog ops Q rest (a.put o.dst v') w') : wpList Try.prog ops Q (o :: rest) a w := by
  obtain ⟨i0, hi, hz0, hz1, hz2⟩ := info_parts info5
  obtain ⟨ad, m, cap, rfl, hm⟩ := hp.slice
  cases ad with
  | none =>
    obtain ⟨a', cap', h1, h2, h3, h4, h5, h6, h7⟩ := hp
    simp only [Value.slice.injEq] at h1
    have hc := h4 h1.1.symm
    have hl : p = [] := List.length_eq_zero_iff.1 (by omega)
    subst hl
    have hx' : a.eval x = .slice none 0 0 := by rw [hx]; simp only [Value.slice.injEq, true_and]; exact ⟨by simpa using hm, by omega⟩
    exact wpList_append_own_none hgd s x 39 ho base 5 i0 1 Try.underlying39 hi v n xs hs hown hx' (h v w (by simpa using hown) ⟨rfl, rfl, rfl, Nat.le_refl _, fun _ _ _ => rfl⟩)
  | some ad =>
    refine wpList_append_own w hgd s x 39 ho base 5 i0 (.int .u8 0) 1 1 Try.underlying39 hi hz0 hz1 hz2 rfl (by decide) v n xs hs hown ad m cap (bv p) hx (by rw [bv_len]; omega) hp.news (bv_one _) (by unfold maxLen; omega) (by omega) hbase fun v' w' h1 h2 _ => ?_
    rw [hm] at h1
    exact h v' w' h1 h2

theorem row_shapeF {w : World} {base n : Nat} {v : Value} {xs : List Value} (h : w.ownsRow base 5 1 v n xs) : ∃ a m c, v = .slice a m c := by
  rcases h.2 with ⟨rfl, _⟩ | ⟨g, cap, cur, rfl, _⟩ <;> exact ⟨_, _, _, rfl⟩
theorem row_monoF {w : World} {base base' n : Nat} {v : Value} {xs : List Value} (h : w.ownsRow base 5 1 v n xs) (hb : base' ≤ base) : w.ownsRow base' 5 1 v n xs := by
  obtain ⟨h1, h2⟩ := h
  refine ⟨h1, ?_⟩
  rcases h2 with h2 | ⟨g, cap, cur, e, hg, r⟩
  · exact .inl h2
  · exact .inr ⟨g, cap, cur, e, Nat.le_trans hb hg, r⟩
abbrev routV (v : Value) (f : Bool) : Value := .agg #[v, .bool f]
def RawPost (l : List Int) (f : Bool) (w : World) (r : Ending) (w' : World) : Prop :=
  ∃ v', r = .returned (routV v' f) ∧ w'.ownsRow w.heap.size 5 1 v' l.length (bv l) ∧ Below w.heap.size w w'
theorem info28 : (Try.prog.info? 112).map (·.size) = some 2 := by kernel_rfl
set_option maxHeartbeats 3200000 in
theorem rraw_any (M : Nat) (v s : Value) (l p : List Int) (f : Bool) (w : World) (h : HoldsB w M v l) (hs : HoldsB w M s p) (hlen : l.length + p.length ≤ 1099511627776) :
    Calls Try.prog 48 #[routV v f, s] w (RawPost (l ++ p) f w) := by
  have H := Lib.hid h
  have HS := Lib.hid hs
  obtain ⟨a, n, cap, rfl, -⟩ := h.slice
  obtain ⟨a2, n2, cap2, rfl, -⟩ := hs.slice
  clear h hs
  have HB : Hid (Below w.heap.size w ((w.alloc (.cells #[.slice a n cap, .bool f] 112)).alloc (.cells #[.slice none 0 0, .bool false] 112))) := more (more (Below.refl _ _) _) _
  have HA : Hid (Blk ((w.alloc (.cells #[.slice a n cap, .bool f] 112)).alloc (.cells #[.slice none 0 0, .bool false] 112)) w.heap.size (.cells #[.slice a n cap, .bool f] 112)) := (Blk.new _ _).old _
  have HR : Hid (Blk ((w.alloc (.cells #[.slice a n cap, .bool f] 112)).alloc (.cells #[.slice none 0 0, .bool false] 112)) (w.heap.size + 1) (.cells #[.slice none 0 0, .bool false] 112)) := Blk.newAt _ (by simp)
  go_enter Try.func48, Try.ntmps48
  go_wp2_with (at_builtin; refine wpList_append_holdsF rfl _ _ rfl (w.heap.size + 2) _ _ _ rfl (World.ownsRow_nil _ _ _ _) M _ l rfl ((H.out.keep HB.out)) ?c0 ?c1 ?_)
  case c0 => omega
  case c1 => simp
  intro v1 w1 ho1 hg1
  have hs2 : ((w.alloc (.cells #[.slice a n cap, .bool f] 112)).alloc (.cells #[.slice none 0 0, .bool false] 112)).heap.size = w.heap.size + 2 := by simp
  generalize (w.alloc (.cells #[.slice a n cap, .bool f] 112)).alloc (.cells #[.slice none 0 0, .bool false] 112) = W at HB HA HR hg1 hs2 ⊢
  have hB1 : Below (w.heap.size + 2) W w1 := (Below.refl _ W).grown hg1 (by omega) (fun k hk => by simp [Value.ownBlock] at hk)
  have HB1 : Hid (Below w.heap.size w w1) := HB.out.trans (hB1.mono (by omega))
  have HA1 : Hid (Blk w1 w.heap.size (.cells #[.slice a n cap, .bool f] 112)) := HA.out.upto hB1 (by omega)
  have HR1 : Hid (Blk w1 (w.heap.size + 1) (.cells #[.slice none 0 0, .bool false] 112)) := HR.out.upto hB1 (by omega)
  have HO1 := Lib.hid ho1
  have HZ1 : Hid (w.heap.size + 2 ≤ w1.heap.size) := by have := hB1.size; show _ ≤ _; omega
  clear ho1 hg1 hB1 hs2 HA HR HB
  go_wp2_with (at_builtin; refine wpList_append_holdsF rfl _ _ rfl (w.heap.size + 2) _ _ _ rfl HO1.out M _ p rfl (HS.out.keep HB1.out) ?c0 ?c1 ?_)
  case c0 => omega
  case c1 => exact HZ1.out
  intro v2 w2 ho2 hg2
  have hB2 : Below (w.heap.size + 2) w1 w2 := (Below.refl _ w1).grown hg2 HZ1.out (fun k hk => (HO1.out.lt k hk).1)
  have hA2 : Blk w2 w.heap.size (.cells #[.slice a n cap, .bool f] 112) := HA1.out.upto hB2 (by omega)
  have hR2 : Blk w2 (w.heap.size + 1) (.cells #[.slice none 0 0, .bool false] 112) := HR1.out.upto hB2 (by omega)
  have HB2 : Hid (Below w.heap.size w w2) := HB1.out.trans (hB2.mono (by omega))
  have HO2 := Lib.hid ho2
  have HA2 := Lib.hid hA2
  have HR2 := Lib.hid hR2
  obtain ⟨a5, n5, c5, rfl⟩ := row_shapeF ho2
  have hA2l := hA2.lt
  obtain ⟨c0, c1, f0, f1⟩ := hA2.two
  obtain ⟨d0, d1, g0, g1⟩ := hR2.two
  clear ho2 hg2 hB2 hA2 hR2 HZ1 HA1 HR1 HB1 HO1
  go_wp2_with fail
  have hsA : w.heap.size < w2.heap.size := hA2l
  have hRO : Blk (w2.setCell ⟨w.heap.size, 0, none⟩ (.slice a5 n5 c5)) (w.heap.size + 1) (.cells #[.slice none 0 0, .bool false] 112) := HR2.out.setOther (p := ⟨w.heap.size, 0, none⟩) (by show w.heap.size ≠ _; omega) _
  have hRF : Blk (((w2.setCell ⟨w.heap.size, 0, none⟩ (.slice a5 n5 c5)).setCell ⟨w.heap.size + 1, 0, none⟩ (.slice a5 n5 c5)).setCell ⟨w.heap.size + 1, 1, none⟩ (.bool f)) (w.heap.size + 1) (.cells #[.slice a5 n5 c5, .bool f] 112) :=
    (hRO.set 0 (.slice a5 n5 c5)).set 1 (.bool f)
  have hTA := ((Turn.same HA2.out).set 0 (.slice a5 n5 c5)).below (B := w.heap.size) (Nat.le_refl _) (by omega)
  have hTR := (((Turn.same hRO).set 0 (.slice a5 n5 c5)).set 1 (.bool f)).below (B := w.heap.size) (by omega) (by simpa using Nat.le_of_lt hsA)
  have hrow := row_monoF (ownsRow_setCell_below (ownsRow_setCell_below (ownsRow_setCell_below HO2.out (a := ⟨w.heap.size, 0, none⟩) (by show w.heap.size < _; omega) (.slice a5 n5 c5)) (a := ⟨w.heap.size + 1, 0, none⟩) (by show w.heap.size + 1 < _; omega) (.slice a5 n5 c5)) (a := ⟨w.heap.size + 1, 1, none⟩) (by show w.heap.size + 1 < _; omega) (.bool f)) (base' := w.heap.size) (by omega)
  refine bodyPost_ret (v := routV (.slice a5 n5 c5) f) (results_cell_row Try.results48 _ _ (w.heap.size + 1) 112 #[.slice a5 n5 c5, .bool f] (0, 0) _ rfl hRF Try.underlying112 rfl info28) rfl ⟨_, rfl, ?_, (HB2.out.trans hTA).trans hTR⟩
  have e1 : l.length + p.length = (l ++ p).length := by simp
  have e2 : bv l ++ bv p = bv (l ++ p) := by simp
  rw [← e1, ← e2]
  simpa using hrow
end Go.Proofs.Ytioeaknhcfkfcaa
