/-
  The contracts of Lay, U16, Bytes, and of the document's example.
  The contracts of Out's U8, U32, U64, Sum, Blob.
  The contract of Out's Sums.
  The document's Out: Raw, Bytes.
  The document's Out: Num, Bytes.
  The document's Out: Blob.
  The bytes of a piece.
-/
import Derived.Test.YtioeaknhcfkfcaaBu05
namespace Go.Proofs.Ytioeaknhcfkfcaa
open Go.RowKit

theorem lay_any (w : World) : Calls Try.prog 24 #[] w fun r w' => r = .returned (.pointer (some ⟨w.heap.size, 0, none⟩)) ∧ w.alloc (outObj (.slice none 0 0) false) = w' := by
  go_enter Try.func24, Try.ntmps24
  go_wp2_with fail
  go_ret
  exact ⟨rfl, rfl⟩
theorem OutIs.laid (w : World) : OutIs (w.alloc (outObj (.slice none 0 0) false)) w.heap.size (.slice none 0 0) [] false := ⟨Blk.new _ _, World.ownsRow_nil _ _ _ _, Bytes.nil⟩

theorem u16o_any (O : Nat) (v : Value) (l : List Int) (f : Bool) (n : Int) (w : World) (h : OutIs w O v l f) (hn0 : 0 ≤ n) (hn1 : n < 18446744073709551616) (hlen : l.length ≤ 1000000000000) :
    Calls Try.prog 72 #[.pointer (some ⟨O, 0, none⟩), .int .u64 n] w (NumPost O v l f n 2 w) := by
  go_enter Try.func72, Try.ntmps72
  go_wp2_with fail
  refine (number_2 O v l f n _ h hn0 hn1 hlen).mono ?_
  rintro r w1 ⟨rfl, h1⟩
  go_wp2_with fail
  go_end0
  exact ⟨rfl, h1⟩

/-- What Bytes answers. -/
def BytesPost (l : List Int) (f : Bool) (w : World) (r : Ending) (w' : World) : Prop :=
  ∃ v, r = .returned (.tuple #[v, .int .i64 (if f then 8 else 0)]) ∧ w'.ownsRow w.heap.size 5 1 v (if f then [] else l).length (bv (if f then [] else l)) ∧ Below w.heap.size w w'
set_option maxHeartbeats 800000 in
theorem bytes_any (O : Nat) (v : Value) (l : List Int) (f : Bool) (w : World) (h : OutIs w O v l f) (hlen : l.length ≤ 1099511627776) :
    Calls Try.prog 29 #[.pointer (some ⟨O, 0, none⟩)] w (BytesPost l f w) := by
  have H := Lib.hid h
  obtain ⟨c0, c1, -⟩ := h.blk.two
  obtain ⟨a, n, cap, rfl⟩ := h.shape
  clear h
  cases f with
  | true =>
    have HP : Hid (BytesPost l true w (.returned (.tuple #[.slice none 0 0, .int .i64 8])) w) := ⟨_, rfl, World.ownsRow_nil _ _ _ _, Below.refl _ _⟩
    go_enter Try.func29, Try.ntmps29
    go_wp2_with fail
    go_ret2
    exact HP.out
  | false =>
    have HP : Hid (∀ v w', w'.ownsRow w.heap.size 5 1 v l.length (bv l) → Below w.heap.size w w' → BytesPost l false w (.returned (.tuple #[v, .int .i64 0])) w') := fun v w' h1 h2 => ⟨v, rfl, h1, h2⟩
    go_enter Try.func29, Try.ntmps29
    go_wp2_with fail
    refine (clone_any _ _ l _ H.out.holds (by omega)).mono ?_
    rintro r w1 ⟨v1, rfl, h1, h2⟩
    go_wp2_with fail
    go_ret2
    exact HP.out _ _ h1 h2

/-- From a step on an Out in a new block. -/
theorem OutStep.belowNew {w w1 w2 : World} {O : Nat} {v v1 : Value} {l : List Int} {f : Bool} {B : Nat} (h : OutStep O v v1 l f w1 w2) (hb : Below B w w1) (hO : B ≤ O) (hv : ∀ k, v.ownBlock = some k → B ≤ k) (hs : B ≤ w1.heap.size) : Below B w w2 :=
  hb.trans ⟨h.os, h.tape, h.output, h.size, fun k hk => h.other k (by omega) (by omega) (fun e => by have := hv k e; omega)⟩

end Go.Proofs.Ytioeaknhcfkfcaa

namespace Go.Proofs.Ytioeaknhcfkfcaa
open Go.RowKit

theorem u8o_any (O : Nat) (v : Value) (l : List Int) (f : Bool) (n : Int) (w : World) (h : OutIs w O v l f) (hn0 : 0 ≤ n) (hn1 : n < 18446744073709551616) (hlen : l.length ≤ 1000000000000) :
    Calls Try.prog 25 #[.pointer (some ⟨O, 0, none⟩), .int .u64 n] w (NumPost O v l f n 1 w) := by
  go_enter Try.func25, Try.ntmps25
  go_wp2_with fail
  refine (number_1 O v l f n _ h hn0 hn1 hlen).mono ?_
  rintro r w1 ⟨rfl, h1⟩
  go_wp2_with fail
  go_end0
  exact ⟨rfl, h1⟩
theorem u32o_any (O : Nat) (v : Value) (l : List Int) (f : Bool) (n : Int) (w : World) (h : OutIs w O v l f) (hn0 : 0 ≤ n) (hn1 : n < 18446744073709551616) (hlen : l.length ≤ 1000000000000) :
    Calls Try.prog 53 #[.pointer (some ⟨O, 0, none⟩), .int .u64 n] w (NumPost O v l f n 4 w) := by
  go_enter Try.func53, Try.ntmps53
  go_wp2_with fail
  refine (number_4 O v l f n _ h hn0 hn1 hlen).mono ?_
  rintro r w1 ⟨rfl, h1⟩
  go_wp2_with fail
  go_end0
  exact ⟨rfl, h1⟩
/-- What a call that lays answers. -/
def LayPost (O : Nat) (v : Value) (l : List Int) (f : Bool) (w : World) (r : Ending) (w' : World) : Prop := r = .returned (.tuple #[]) ∧ ∃ v', OutStep O v v' l f w w'
/-- Bytes below the Out are as they were. -/
theorem OutStep.holds {O M : Nat} {v v1 s : Value} {l l0 p : List Int} {f f0 : Bool} {w w1 : World} (h : OutStep O v v1 l f w w1) (h0 : OutIs w O v l0 f0) (hs : HoldsB w M s p) (hM : M ≤ O) : HoldsB w1 M s p :=
  hs.frame h.size fun k hk hk2 => h.other k hk2 (by omega) (fun e => by have := (h0.row.lt k e).1; omega)
def blobL' (l p : List Int) (f : Bool) : List Int := if 4096 < p.length then [] else if f then l else l ++ digs p.length 2 ++ p
def blobF' (p : List Int) (f : Bool) : Bool := f || decide (4096 < p.length)
theorem blob_parts {l p : List Int} {f : Bool} (h : ¬ 4096 < p.length) : blobL' l p f = putL (numL l f p.length 2) p f ∧ blobF' p f = f ∧ numF f p.length 2 = f := by
  have h2 : ¬ (256 ^ 2 : Int) ≤ p.length := by simp; omega
  unfold blobL' blobF' putL numL numF
  refine ⟨?_, by rw [decide_eq_false h, Bool.or_false], by rw [decide_eq_false h2, Bool.or_false]⟩
  rw [if_neg h, if_neg h2]
  cases f <;> rfl
theorem numL_len (l : List Int) (f : Bool) (n : Int) (k : Nat) : (numL l f n k).length ≤ l.length + k := by
  unfold numL
  split
  · simp
  · split
    · omega
    · rw [List.length_append, digs_len]; omega
set_option maxHeartbeats 1600000 in
theorem blobo_any (O M : Nat) (v s : Value) (l p : List Int) (f : Bool) (w : World) (h : OutIs w O v l f) (hs : HoldsB w M s p) (hM : M ≤ O) (hlen : l.length ≤ 1000000000) :
    Calls Try.prog 65 #[.pointer (some ⟨O, 0, none⟩), s] w (LayPost O v (blobL' l p f) (blobF' p f) w) := by
  have H := Lib.hid h
  have HS := Lib.hid hs
  obtain ⟨a, n, cap, rfl, hn⟩ := hs.slice
  have HN := Lib.hid hn
  have hpl := hs.len
  unfold maxLen at hpl
  have hnl : n ≤ 9223372036854775807 := by omega
  clear h hs hpl
  by_cases hbig : 4096 < n
  · have hl : Hid (blobL' l p f = [] ∧ blobF' p f = true) := by
      unfold Hid blobL' blobF'
      rw [if_pos (by omega)]
      exact ⟨rfl, by simp; right; omega⟩
    clear hn
    go_enter Try.func65, Try.ntmps65
    go_wp2_with fail
    refine (giveUp_any O v l f _ H.out).mono ?_
    rintro r w1 ⟨rfl, h1⟩
    have H1 := Lib.hid h1
    clear h1
    go_wp2_with fail
    go_end0
    exact ⟨rfl, _, by rw [hl.out.1, hl.out.2]; exact H1.out⟩
  · have hl := Lib.hid (blob_parts (l := l) (p := p) (f := f) (by omega))
    clear hn
    go_enter Try.func65, Try.ntmps65
    go_wp2_with fail
    refine (u16o_any O v l f n _ H.out (by omega) (by omega) (by omega)).mono ?_
    rintro r w1 ⟨rfl, v1, h1⟩
    rw [HN.out, hl.out.2.2] at h1
    have H1 := Lib.hid h1
    clear h1
    go_wp2_with fail
    refine (put_any O M v1 _ _ p f _ H1.out.is (H1.out.holds H.out HS.out hM) (by have := numL_len l f p.length 2; have := HN.out; omega)).mono ?_
    rintro r w2 ⟨rfl, v2, h2⟩
    have H2 := Lib.hid (H1.out.trans h2)
    clear h2
    go_wp2_with fail
    go_end0
    exact ⟨rfl, v2, by rw [hl.out.1, hl.out.2.1]; exact H2.out⟩

theorem HoldsB.box (w : World) (p : List Int) (h7 : Bytes p) (h : p.length ≤ maxLen) (t : TypeId) : HoldsB (w.alloc (.cells (bv p).toArray t)) (w.heap.size + 1) (.slice (some ⟨w.heap.size, 0, none⟩) p.length p.length) p := by
  refine ⟨_, _, rfl, Nat.le_refl _, h, (fun e => by cases e), (fun y hy _ => by cases hy; exact ⟨rfl, Nat.lt_succ_self _, by simp⟩), (fun y i hy hi => ?_), h7⟩
  cases hy
  have := (Blk.new w (.cells (bv p).toArray t)).cell i
  simp only [Nat.zero_add]
  rw [this, List.getElem?_toArray, List.getElem?_map, List.getD_eq_getElem?_getD, List.getElem?_eq_getElem hi]; rfl
end Go.Proofs.Ytioeaknhcfkfcaa

namespace Go.Proofs.Ytioeaknhcfkfcaa
open Go.RowKit

/-- What Out lays for n short sums, whose bytes are S. -/
def sumsL' (l S : List Int) (n : Nat) (f : Bool) : List Int := putL (numL l f n 1) S (numF f n 1)
def sumsF' (n : Nat) (f : Bool) : Bool := numF f n 1
theorem putL_nil (L : List Int) (f : Bool) : putL L [] f = L := by
  unfold putL
  cases f <;> simp
theorem putL_len (L p : List Int) (f : Bool) : (putL L p f).length ≤ L.length + p.length := by
  unfold putL
  split
  · omega
  · rw [List.length_append]; omega

end Go.Proofs.Ytioeaknhcfkfcaa

namespace Go.Proofs.Ytioeaknhcfkfcaa
open Go.RowKit

/-- append of bytes that stand somewhere, to a row of the call's own. -/
theorem wpList_append_holdsF {w : World} {ops : Array Oper} {rest : List Oper} {o : Oper} {a : Act} {Q : Exit → Act → World → Prop} (hgd : o.guard = none) (s x : Operand)
    (ho : o.op = .call { callee := .builtin .append, args := #[s, x], argTypes := #[39, 39] })
    (base : Nat) (v : Value) (n : Nat) (xs : List Value) (hs : a.eval s = v) (hown : w.ownsRow base 5 1 v n xs)
    (M : Nat) (u : Value) (p : List Int) (hx : a.eval x = u) (hp : HoldsB w M u p) (h63 : n + p.length ≤ 140737488355328) (hbase : base ≤ w.heap.size)
    (h : ∀ v' w', w'.ownsRow base 5 1 v' (n + p.length) (xs ++ bv p) → w.grownBy w' v.ownBlock → wpList Try.prog ops Q rest (a.put o.dst v') w') : wpList Try.prog ops Q (o :: rest) a w := by
  obtain ⟨i0, hi, hz0, hz1, hz2⟩ := info_parts info5
  obtain ⟨ad, m, cap, rfl, hm⟩ := hp.slice
  cases ad with
  | none =>
    obtain ⟨a', cap', h1, h2, h3, h4, h5, h6, h7⟩ := hp
    simp only [Value.slice.injEq] at h1
    have hc := h4 h1.1.symm
    have hl : p = [] := List.length_eq_zero_iff.1 (by omega)
    subst hl
    have hx' : a.eval x = .slice none 0 0 := by rw [hx]; simp only [Value.slice.injEq, true_and]; exact ⟨by simpa using hm, by omega⟩
    exact wpList_append_own_none hgd s x 39 ho base 5 i0 1 Try.underlying39 hi v n xs hs hown hx' (h v w (by simpa using hown) ⟨rfl, rfl, rfl, Nat.le_refl _, fun _ _ _ => rfl⟩)
  | some ad =>
    refine wpList_append_own w hgd s x 39 ho base 5 i0 (.int .u8 0) 1 1 Try.underlying39 hi hz0 hz1 hz2 rfl (by decide) v n xs hs hown ad m cap (bv p) hx (by rw [bv_len]; omega) hp.news (bv_one _) (by unfold maxLen; omega) (by omega) hbase fun v' w' h1 h2 _ => ?_
    rw [hm] at h1
    exact h v' w' h1 h2

theorem row_shapeF {w : World} {base n : Nat} {v : Value} {xs : List Value} (h : w.ownsRow base 5 1 v n xs) : ∃ a m c, v = .slice a m c := by
  rcases h.2 with ⟨rfl, _⟩ | ⟨g, cap, cur, rfl, _⟩ <;> exact ⟨_, _, _, rfl⟩
theorem row_monoF {w : World} {base base' n : Nat} {v : Value} {xs : List Value} (h : w.ownsRow base 5 1 v n xs) (hb : base' ≤ base) : w.ownsRow base' 5 1 v n xs := by
  obtain ⟨h1, h2⟩ := h
  refine ⟨h1, ?_⟩
  rcases h2 with h2 | ⟨g, cap, cur, e, hg, r⟩
  · exact .inl h2
  · exact .inr ⟨g, cap, cur, e, Nat.le_trans hb hg, r⟩
abbrev routV (v : Value) (f : Bool) : Value := .agg #[v, .bool f]
def RawPost (l : List Int) (f : Bool) (w : World) (r : Ending) (w' : World) : Prop :=
  ∃ v', r = .returned (routV v' f) ∧ w'.ownsRow w.heap.size 5 1 v' l.length (bv l) ∧ Below w.heap.size w w'
theorem info28 : (Try.prog.info? 112).map (·.size) = some 2 := by kernel_rfl
set_option maxHeartbeats 3200000 in
theorem rraw_any (M : Nat) (v s : Value) (l p : List Int) (f : Bool) (w : World) (h : HoldsB w M v l) (hs : HoldsB w M s p) (hlen : l.length + p.length ≤ 1099511627776) :
    Calls Try.prog 48 #[routV v f, s] w (RawPost (l ++ p) f w) := by
  have H := Lib.hid h
  have HS := Lib.hid hs
  obtain ⟨a, n, cap, rfl, -⟩ := h.slice
  obtain ⟨a2, n2, cap2, rfl, -⟩ := hs.slice
  clear h hs
  have HB : Hid (Below w.heap.size w ((w.alloc (.cells #[.slice a n cap, .bool f] 112)).alloc (.cells #[.slice none 0 0, .bool false] 112))) := more (more (Below.refl _ _) _) _
  have HA : Hid (Blk ((w.alloc (.cells #[.slice a n cap, .bool f] 112)).alloc (.cells #[.slice none 0 0, .bool false] 112)) w.heap.size (.cells #[.slice a n cap, .bool f] 112)) := (Blk.new _ _).old _
  have HR : Hid (Blk ((w.alloc (.cells #[.slice a n cap, .bool f] 112)).alloc (.cells #[.slice none 0 0, .bool false] 112)) (w.heap.size + 1) (.cells #[.slice none 0 0, .bool false] 112)) := Blk.newAt _ (by simp)
  go_enter Try.func48, Try.ntmps48
  go_wp2_with (at_builtin; refine wpList_append_holdsF rfl _ _ rfl (w.heap.size + 2) _ _ _ rfl (World.ownsRow_nil _ _ _ _) M _ l rfl ((H.out.keep HB.out)) ?c0 ?c1 ?_)
  case c0 => omega
  case c1 => simp
  intro v1 w1 ho1 hg1
  have hs2 : ((w.alloc (.cells #[.slice a n cap, .bool f] 112)).alloc (.cells #[.slice none 0 0, .bool false] 112)).heap.size = w.heap.size + 2 := by simp
  generalize (w.alloc (.cells #[.slice a n cap, .bool f] 112)).alloc (.cells #[.slice none 0 0, .bool false] 112) = W at HB HA HR hg1 hs2 ⊢
  have hB1 : Below (w.heap.size + 2) W w1 := (Below.refl _ W).grown hg1 (by omega) (fun k hk => by simp [Value.ownBlock] at hk)
  have HB1 : Hid (Below w.heap.size w w1) := HB.out.trans (hB1.mono (by omega))
  have HA1 : Hid (Blk w1 w.heap.size (.cells #[.slice a n cap, .bool f] 112)) := HA.out.upto hB1 (by omega)
  have HR1 : Hid (Blk w1 (w.heap.size + 1) (.cells #[.slice none 0 0, .bool false] 112)) := HR.out.upto hB1 (by omega)
  have HO1 := Lib.hid ho1
  have HZ1 : Hid (w.heap.size + 2 ≤ w1.heap.size) := by have := hB1.size; show _ ≤ _; omega
  clear ho1 hg1 hB1 hs2 HA HR HB
  go_wp2_with (at_builtin; refine wpList_append_holdsF rfl _ _ rfl (w.heap.size + 2) _ _ _ rfl HO1.out M _ p rfl (HS.out.keep HB1.out) ?c0 ?c1 ?_)
  case c0 => omega
  case c1 => exact HZ1.out
  intro v2 w2 ho2 hg2
  have hB2 : Below (w.heap.size + 2) w1 w2 := (Below.refl _ w1).grown hg2 HZ1.out (fun k hk => (HO1.out.lt k hk).1)
  have hA2 : Blk w2 w.heap.size (.cells #[.slice a n cap, .bool f] 112) := HA1.out.upto hB2 (by omega)
  have hR2 : Blk w2 (w.heap.size + 1) (.cells #[.slice none 0 0, .bool false] 112) := HR1.out.upto hB2 (by omega)
  have HB2 : Hid (Below w.heap.size w w2) := HB1.out.trans (hB2.mono (by omega))
  have HO2 := Lib.hid ho2
  have HA2 := Lib.hid hA2
  have HR2 := Lib.hid hR2
  obtain ⟨a5, n5, c5, rfl⟩ := row_shapeF ho2
  have hA2l := hA2.lt
  obtain ⟨c0, c1, f0, f1⟩ := hA2.two
  obtain ⟨d0, d1, g0, g1⟩ := hR2.two
  clear ho2 hg2 hB2 hA2 hR2 HZ1 HA1 HR1 HB1 HO1
  go_wp2_with fail
  have hsA : w.heap.size < w2.heap.size := hA2l
  have hRO : Blk (w2.setCell ⟨w.heap.size, 0, none⟩ (.slice a5 n5 c5)) (w.heap.size + 1) (.cells #[.slice none 0 0, .bool false] 112) := HR2.out.setOther (p := ⟨w.heap.size, 0, none⟩) (by show w.heap.size ≠ _; omega) _
  have hRF : Blk (((w2.setCell ⟨w.heap.size, 0, none⟩ (.slice a5 n5 c5)).setCell ⟨w.heap.size + 1, 0, none⟩ (.slice a5 n5 c5)).setCell ⟨w.heap.size + 1, 1, none⟩ (.bool f)) (w.heap.size + 1) (.cells #[.slice a5 n5 c5, .bool f] 112) :=
    (hRO.set 0 (.slice a5 n5 c5)).set 1 (.bool f)
  have hTA := ((Turn.same HA2.out).set 0 (.slice a5 n5 c5)).below (B := w.heap.size) (Nat.le_refl _) (by omega)
  have hTR := (((Turn.same hRO).set 0 (.slice a5 n5 c5)).set 1 (.bool f)).below (B := w.heap.size) (by omega) (by simpa using Nat.le_of_lt hsA)
  have hrow := row_monoF (ownsRow_setCell_below (ownsRow_setCell_below (ownsRow_setCell_below HO2.out (a := ⟨w.heap.size, 0, none⟩) (by show w.heap.size < _; omega) (.slice a5 n5 c5)) (a := ⟨w.heap.size + 1, 0, none⟩) (by show w.heap.size + 1 < _; omega) (.slice a5 n5 c5)) (a := ⟨w.heap.size + 1, 1, none⟩) (by show w.heap.size + 1 < _; omega) (.bool f)) (base' := w.heap.size) (by omega)
  refine bodyPost_ret (v := routV (.slice a5 n5 c5) f) (results_cell_row Try.results48 _ _ (w.heap.size + 1) 112 #[.slice a5 n5 c5, .bool f] (0, 0) _ rfl hRF Try.underlying112 rfl info28) rfl ⟨_, rfl, ?_, (HB2.out.trans hTA).trans hTR⟩
  have e1 : l.length + p.length = (l ++ p).length := by simp
  have e2 : bv l ++ bv p = bv (l ++ p) := by simp
  rw [← e1, ← e2]
  simpa using hrow
end Go.Proofs.Ytioeaknhcfkfcaa

namespace Go.Proofs.Ytioeaknhcfkfcaa
open Go.RowKit

def ROutPost (v0 : Value) (l : List Int) (f : Bool) (w : World) (r : Ending) (w' : World) : Prop :=
  ∃ v', r = .returned (routV v' f) ∧ HoldsB w' w'.heap.size v' l ∧ (v' = v0 ∨ w'.ownsRow w.heap.size 5 1 v' l.length (bv l)) ∧ Below w.heap.size w w'
/-- A number's lowest bytes, the lowest first. -/
def lows (n : Int) (i : Nat) : List Int := (List.range i).map fun j => n / 256 ^ j % 256
theorem lows_step (n : Int) (i : Nat) : lows n i ++ [n / 256 ^ i % 256] = lows n (i + 1) := by
  unfold lows
  rw [List.range_succ, List.map_append]; rfl
theorem lows_len (n : Int) (i : Nat) : (lows n i).length = i := by simp [lows]
theorem pow_step (n : Int) (i : Nat) : n / 256 ^ i / 256 = n / 256 ^ (i + 1) := by
  rw [Int.pow_succ, Int.ediv_ediv_of_nonneg (Int.pow_nonneg (by omega))]
theorem lows_at {n : Int} {k j : Nat} (h : j < k) : (bv (lows n k))[j]? = some (.int .u8 (n / 256 ^ j % 256)) := by
  unfold bv lows
  rw [List.getElem?_map, List.getElem?_map, List.getElem?_range h]; rfl

set_option maxHeartbeats 3200000 in
theorem rnum_any (M : Nat) (v : Value) (l : List Int) (f : Bool) (n : Int) (k : Nat) (w : World) (h : HoldsB w M v l) (hM : M ≤ w.heap.size) (hn0 : 0 ≤ n) (hn1 : n < 18446744073709551616) (hk : k ≤ 8) (hlen : l.length ≤ 1000000000000) :
    Calls Try.prog 46 #[routV v f, .int .u64 n, .int .i64 k] w (ROutPost v (if 256 ^ k ≤ n then l else l ++ digs n k) (numF f n k) w) := by
  have H := Lib.hid h
  obtain ⟨a, m, cap, rfl, -⟩ := h.slice
  clear h
  have HB : Hid (Below w.heap.size w ((w.alloc (.cells #[.slice a m cap, .bool f] 112)).alloc (.cells #[.slice none 0 0, .bool false] 112))) := more (more (Below.refl _ _) _) _
  have HA : Hid (Blk ((w.alloc (.cells #[.slice a m cap, .bool f] 112)).alloc (.cells #[.slice none 0 0, .bool false] 112)) w.heap.size (.cells #[.slice a m cap, .bool f] 112)) := (Blk.new _ _).old _
  have HR : Hid (Blk ((w.alloc (.cells #[.slice a m cap, .bool f] 112)).alloc (.cells #[.slice none 0 0, .bool false] 112)) (w.heap.size + 1) (.cells #[.slice none 0 0, .bool false] 112)) := Blk.newAt _ (by simp)
  have hs2 : ((w.alloc (.cells #[.slice a m cap, .bool f] 112)).alloc (.cells #[.slice none 0 0, .bool false] 112)).heap.size = w.heap.size + 2 := by simp
  obtain ⟨LL, hLL⟩ : ∃ x, x = (if 256 ^ k ≤ n then l else l ++ digs n k) := ⟨_, rfl⟩
  obtain ⟨FF, hFF⟩ : ∃ x, x = numF f n k := ⟨_, rfl⟩
  rw [← hLL, ← hFF]
  have HLL := Lib.hid hLL
  have HFF := Lib.hid hFF
  clear hLL hFF
  go_enter Try.func46, Try.ntmps46
  go_wp2_with fail
  all_goals
    generalize (w.alloc (.cells #[.slice a m cap, .bool f] 112)).alloc (.cells #[.slice none 0 0, .bool false] 112) = W at HB HA HR hs2 ⊢
    go_loopw [7, 8, 9] (fun row q c wr => ∃ i : Nat, i ≤ k ∧ c = .int .i64 i ∧ q = .int .u64 (n / 256 ^ i) ∧ wr.ownsRow (w.heap.size + 2) 5 1 row i (bv (lows n i)) ∧ Below (w.heap.size + 2) W wr) (fun _ _ c _ => k - (intOf c).toNat)
    case atStart => exact ⟨0, by omega, rfl, by simp, World.ownsRow_nil _ _ _ _, Below.refl _ _⟩
    case round =>
      obtain ⟨i, hi, rfl, rfl, hrow, hbel⟩ := hrel
      have HROW := Lib.hid hrow
      have HBL := Lib.hid hbel
      clear hrow hbel
      by_cases hlt : i < k
      · have hst := Lib.hid (lows_step n i)
        have hps := Lib.hid (pow_step n i)
        have hq : 0 ≤ n / 256 ^ i ∧ n / 256 ^ i < 18446744073709551616 := by
          have h1 : (0 : Int) < 256 ^ i := Int.pow_pos (by omega)
          exact ⟨Int.ediv_nonneg hn0 (by omega), Int.lt_of_le_of_lt (Int.ediv_le_self _ hn0) hn1⟩
        generalize hqe : n / 256 ^ i = q at hq hst hps
        obtain ⟨hq0, hq1⟩ := hq
        have hx0 : 0 ≤ q % 256 ∧ q % 256 ≤ 255 := by omega
        have HX := Lib.hid hx0
        have HSZ : Hid (w.heap.size + 2 ≤ wr.heap.size) := by have := HBL.out.size; show _ ≤ _; omega
        clear hqe hx0
        go_wp2_with (at_builtin; refine wpList_append_holdsF rfl _ _ rfl (w.heap.size + 2) _ i _ rfl (HROW.out.alloc _) (wr.heap.size + 1) _ [q % 256] rfl (HoldsB.one wr (q % 256) HX.out.1 HX.out.2) ?c0 ?c1 ?_)
        case c0 => simp; omega
        case c1 => have := HSZ.out; simp; omega
        intro v' w' ho hg
        have HB' : Hid (Below (w.heap.size + 2) W w') := ((more (Below.refl _ wr) _).mono HSZ.out |> HBL.out.trans).grown hg (by have := HSZ.out; simp; omega) (fun j hj => (HROW.out.lt j hj).1)
        have HO' : Hid (w'.ownsRow (w.heap.size + 2) 5 1 v' (i + 1) (bv (lows n (i + 1)))) := by
          have h1 := ho
          show World.ownsRow _ _ _ _ _ _ _
          rw [← hst.out]
          simpa using h1
        clear ho hg
        go_wp2_with fail
        exact ⟨⟨i + 1, by omega, by go_num, by rw [← hps.out], HO'.out, HB'.out⟩, by simp [intOf]; omega⟩
      · obtain rfl : i = k := by omega
        have hA := HA.out.upto HBL.out (by omega)
        have hR := HR.out.upto HBL.out (by omega)
        have HWR : Hid (w.heap.size + 2 ≤ wr.heap.size) := by have := HBL.out.size; show _ ≤ _; omega
        have HBW : Hid (Below w.heap.size w wr) := HB.out.trans (HBL.out.mono (by omega))
        have HA2 := Lib.hid hA
        have HR2 := Lib.hid hR
        have hpos : (0 : Int) < 256 ^ i := Int.pow_pos (by omega)
        by_cases hbig : 0 < n / 256 ^ i
        · have hle : (256 : Int) ^ i ≤ n := by
            have h1 := (Int.le_ediv_iff_mul_le hpos).1 (show (1 : Int) ≤ n / 256 ^ i by omega)
            simpa using h1
          have HE : Hid (LL = l ∧ FF = true) := ⟨HLL.out.trans (if_pos hle), HFF.out.trans (by unfold numF; simp [hle])⟩
          obtain ⟨c0, c1, f0, f1⟩ := hA.two
          obtain ⟨d0, d1, g0, g1⟩ := hR.two
          generalize n / 256 ^ i = q at hbig ⊢
          clear hA hR hle hpos
          go_wp2_with fail
          have hRO : Blk (wr.setCell ⟨w.heap.size, 1, none⟩ (.bool true)) (w.heap.size + 1) (.cells #[.slice none 0 0, .bool false] 112) := HR2.out.setOther (p := ⟨w.heap.size, 1, none⟩) (by show w.heap.size ≠ _; omega) _
          have hRF : Blk (((wr.setCell ⟨w.heap.size, 1, none⟩ (.bool true)).setCell ⟨w.heap.size + 1, 0, none⟩ (.slice a m cap)).setCell ⟨w.heap.size + 1, 1, none⟩ (.bool true)) (w.heap.size + 1) (.cells #[.slice a m cap, .bool true] 112) :=
            (hRO.set 0 (.slice a m cap)).set 1 (.bool true)
          have hsz := HWR.out
          have hTA := ((Turn.same HA2.out).set 1 (.bool true)).below (B := w.heap.size) (Nat.le_refl _) (by omega)
          have hTR := (((Turn.same hRO).set 0 (.slice a m cap)).set 1 (.bool true)).below (B := w.heap.size) (by omega) (by simp; omega)
          have hBF := (HBW.out.trans hTA).trans hTR
          refine bodyPost_ret (v := routV (.slice a m cap) true) (results_cell_row Try.results46 _ _ (w.heap.size + 1) 112 #[.slice a m cap, .bool true] (0, 0) _ rfl hRF Try.underlying112 rfl info28) rfl ⟨_, by rw [HE.out.2], by rw [HE.out.1]; exact (H.out.keep hBF).mono (by have := hBF.size; omega), .inl rfl, hBF⟩
        · have hle : ¬ (256 : Int) ^ i ≤ n := fun h => hbig (by
            have h1 := (Int.le_ediv_iff_mul_le hpos).2 (show (1 : Int) * 256 ^ i ≤ n by omega)
            omega)
          have HE : Hid (LL = l ++ digs n i ∧ FF = f) := ⟨HLL.out.trans (if_neg hle), HFF.out.trans (by unfold numF; rw [decide_eq_false hle, Bool.or_false])⟩
          have HBA := Lib.hid (H.out.keep HBW.out)
          have hu7 : Hid (∀ g, u7.ownBlock = some g → g < wr.heap.size) := fun g hg => (HROW.out.lt g hg).2
          obtain ⟨c0, c1, f0, f1⟩ := hA.two
          generalize n / 256 ^ i = q at hbig ⊢
          clear hA hR hle hpos
          go_wp2_with (at_builtin; refine wpList_append_holdsF rfl _ _ rfl wr.heap.size _ _ _ rfl (World.ownsRow_nil _ _ _ _) M _ l rfl HBA.out ?c0 ?c1 ?_)
          case c0 => omega
          intro v1 w1 ho1 hg1
          have hB1 : Below wr.heap.size wr w1 := (Below.refl _ wr).grown hg1 (Nat.le_refl _) (fun k hk => by simp [Value.ownBlock] at hk)
          have HU1 := Lib.hid (ownsRow_below HROW.out hB1)
          have HO1 : Hid (w1.ownsRow wr.heap.size 5 1 v1 l.length (bv l)) := by
            have h1 := ho1
            show World.ownsRow _ _ _ _ _ _ _
            simpa using h1
          have HA3 := Lib.hid (HA2.out.keep hB1)
          have HR3 := Lib.hid (HR2.out.keep hB1)
          have HW3 : Hid (Below w.heap.size w w1) := HBW.out.trans (hB1.mono (by have := HWR.out; omega))
          have HZ3 : Hid (wr.heap.size ≤ w1.heap.size) := hB1.size
          clear ho1 hg1 hB1 c0 c1 f0 f1 HA2 HR2
          generalize wr.heap.size = B2 at HU1 HO1 HWR hu7 HZ3 ⊢
          have hi8 : (i : Int) ≤ 8 := by omega
          go_wp2_with fail
          go_loopw [10, 11] (fun row c wq => ∃ j : Nat, j ≤ i ∧ c = .int .i64 ((i : Int) - 1 - j) ∧ wq.ownsRow B2 5 1 row (l.length + j) (bv (l ++ (digs n i).take j)) ∧ wq.ownsRow (w.heap.size + 2) 5 1 u7 i (bv (lows n i)) ∧ Below B2 w1 wq) (fun _ c _ => (intOf c + 1).toNat)
          case atStart => exact ⟨0, by omega, by go_num, by simpa using HO1.out, HU1.out, Below.refl _ _⟩
          case round =>
            obtain ⟨j, hj, rfl, hrow, hu, hbel⟩ := hrel
            have HR5 := Lib.hid hrow
            have HU5 := Lib.hid hu
            have HB5 := Lib.hid hbel
            clear hrow hbel
            by_cases hlt2 : j < i
            · obtain ⟨t, ht, hti⟩ : ∃ t : Nat, (i : Int) - 1 - j = t ∧ i = t + 1 + j := ⟨i - 1 - j, by omega, by omega⟩
              rw [ht]
              have hsh : ∃ g cap, u7 = .slice (some ⟨g, 0, none⟩) i cap := by
                rcases hu.2 with ⟨_, h0⟩ | ⟨g, cap, cur, h1, _⟩
                · omega
                · exact ⟨g, cap, h1⟩
              obtain ⟨g, cap7, rfl⟩ := hsh
              have hgB := hu7.out g rfl
              have hc : wr.cell? ⟨g, t, none⟩ = some (.int .u8 (n / 256 ^ t % 256)) := (hu.cellAt t (by omega)).trans (lows_at (by omega))
              have hdt0 := digs_take (n := n) (k := i) (i := j) (by omega)
              rw [show i - 1 - j = t by omega] at hdt0
              have hdt := Lib.hid hdt0
              have hx : 0 ≤ n / 256 ^ t % 256 ∧ n / 256 ^ t % 256 ≤ 255 := by omega
              have HX := Lib.hid hx
              have HJ : Hid (j + 1 ≤ i ∧ (t : Int) - 1 = (i : Int) - 1 - ((j + 1 : Nat) : Int)) := ⟨by omega, by omega⟩
              have htl : (t : Int) < i := by omega
              have ht8 : (t : Int) ≤ 8 := by omega
              have HZ5 : Hid (B2 ≤ wr.heap.size) := by have := HB5.out.size; have := HZ3.out; show _ ≤ _; omega
              have HL : Hid (l.length + j + 1 ≤ 140737488355328) := by show _ ≤ _; omega
              generalize n / 256 ^ t % 256 = x at hc hx HX hdt
              clear hdt0 hx hu ht hti
              go_wp2_with (at_builtin; refine wpList_append_holdsF rfl _ _ rfl B2 u10 (l.length + j) (bv (l ++ (digs n i).take j)) rfl (World.ownsRow.alloc HR5.out _) (wr.heap.size + 1) _ [x] rfl (HoldsB.one wr x HX.out.1 HX.out.2) (by have := HL.out; simp; omega) (by have := HZ5.out; simp; omega) ?_)
              intro v' w' ho hg
              have HB' : Hid (Below B2 w1 w') := (HB5.out.trans ((more (Below.refl _ wr) _).mono HZ5.out)).grown hg (by have := HZ5.out; simp; omega) (fun k hk => (HR5.out.lt k hk).1)
              have HU' : Hid (w'.ownsRow (w.heap.size + 2) 5 1 (.slice (some ⟨g, 0, none⟩) i cap7) i (bv (lows n i))) := (HU5.out.alloc _).kept hg (.inr (fun e => by have := (HR5.out.lt g e.symm).1; omega))
              have HO' : Hid (w'.ownsRow B2 5 1 v' (l.length + (j + 1)) (bv (l ++ (digs n i).take (j + 1)))) := by
                have h1 := ho
                show World.ownsRow _ _ _ _ _ _ _
                rw [hdt.out]
                simpa [Nat.add_assoc] using h1
              clear ho hg
              go_wp2_with fail
              exact ⟨⟨j + 1, HJ.out.1, by rw [HJ.out.2], HO'.out, HU'.out, HB'.out⟩, by simp [intOf]⟩
            · obtain rfl : j = i := by omega
              have HL2 : Hid (wr.ownsRow B2 5 1 u10 (l ++ digs n j).length (bv (l ++ digs n j))) := by
                have h1 := HR5.out
                rw [List.take_of_length_le (by rw [digs_len]; omega)] at h1
                show World.ownsRow _ _ _ _ _ _ _
                rw [List.length_append, digs_len]
                exact h1
              obtain ⟨a5, n5, c5, rfl⟩ := row_shapeF HL2.out
              have HA4 := Lib.hid (HA3.out.upto HB5.out (by have := HWR.out; omega))
              have HR4 := Lib.hid (HR3.out.upto HB5.out (by have := HWR.out; omega))
              have HW4 : Hid (Below w.heap.size w wr) := HW3.out.trans (HB5.out.mono (by have := HWR.out; omega))
              have hA4 := HA4.out
              have hR4 := HR4.out
              obtain ⟨c0, c1, f0, f1⟩ := Blk.two hA4
              obtain ⟨d0, d1, g0, g1⟩ := Blk.two hR4
              have hm1 : ¬ (0 : Int) ≤ (j : Int) - 1 - j := by omega
              clear hu hA4 hR4
              go_wp2_with fail
              have hsA : w.heap.size < wr.heap.size := Blk.lt HA4.out
              have hRO : Blk (wr.setCell ⟨w.heap.size, 0, none⟩ (.slice a5 n5 c5)) (w.heap.size + 1) (.cells #[.slice none 0 0, .bool false] 112) := HR4.out.setOther (p := ⟨w.heap.size, 0, none⟩) (by show w.heap.size ≠ _; omega) _
              have hRF : Blk (((wr.setCell ⟨w.heap.size, 0, none⟩ (.slice a5 n5 c5)).setCell ⟨w.heap.size + 1, 0, none⟩ (.slice a5 n5 c5)).setCell ⟨w.heap.size + 1, 1, none⟩ (.bool f)) (w.heap.size + 1) (.cells #[.slice a5 n5 c5, .bool f] 112) :=
                (hRO.set 0 (.slice a5 n5 c5)).set 1 (.bool f)
              have hTA := ((Turn.same HA4.out).set 0 (.slice a5 n5 c5)).below (B := w.heap.size) (Nat.le_refl _) (by omega)
              have hTR := (((Turn.same hRO).set 0 (.slice a5 n5 c5)).set 1 (.bool f)).below (B := w.heap.size) (by omega) (by simpa using Nat.le_of_lt hsA)
              have hB2 := HWR.out
              have hrow := ownsRow_setCell_below (ownsRow_setCell_below (ownsRow_setCell_below HL2.out (a := ⟨w.heap.size, 0, none⟩) (by show w.heap.size < _; omega) (.slice a5 n5 c5)) (a := ⟨w.heap.size + 1, 0, none⟩) (by show w.heap.size + 1 < _; omega) (.slice a5 n5 c5)) (a := ⟨w.heap.size + 1, 1, none⟩) (by show w.heap.size + 1 < _; omega) (.bool f)
              refine bodyPost_ret (v := routV (.slice a5 n5 c5) f) (results_cell_row Try.results46 _ _ (w.heap.size + 1) 112 #[.slice a5 n5 c5, .bool f] (0, 0) _ rfl hRF Try.underlying112 rfl info28) rfl ⟨_, by rw [HE.out.2], by rw [HE.out.1]; exact HoldsB.ofRow (H.out.bytes.append (digs_bytes _ _)) hrow, .inr (by rw [HE.out.1]; exact row_monoF hrow (by have := HWR.out; omega)), (HW4.out.trans hTA).trans hTR⟩
end Go.Proofs.Ytioeaknhcfkfcaa

namespace Go.Proofs.Ytioeaknhcfkfcaa
open Go.RowKit

theorem rraw_out (M : Nat) (v s : Value) (l p : List Int) (f : Bool) (w : World) (h : HoldsB w M v l) (hs : HoldsB w M s p) (hlen : l.length + p.length ≤ 1099511627776) :
    Calls Try.prog 48 #[routV v f, s] w (ROutPost v (l ++ p) f w) :=
  (rraw_any M v s l p f w h hs hlen).mono fun _ _ ⟨v', e, ho, hb⟩ => ⟨v', e, HoldsB.ofRow (h.bytes.append hs.bytes) ho, .inr ho, hb⟩
set_option maxHeartbeats 3200000 in
theorem roblob_any (M : Nat) (v s : Value) (l p : List Int) (f : Bool) (w : World) (h : HoldsB w M v l) (hs : HoldsB w M s p) (hM : M ≤ w.heap.size) (hlen : l.length ≤ 1000000000) :
    Calls Try.prog 67 #[routV v f, s] w (ROutPost v (if 4096 < p.length then l else l ++ digs p.length 2 ++ p) (f || decide (4096 < p.length)) w) := by
  have H := Lib.hid h
  have HS := Lib.hid hs
  obtain ⟨a, m, cap, rfl, -⟩ := h.slice
  obtain ⟨a2, m2, cap2, rfl, hm2⟩ := hs.slice
  have hpl := hs.len
  unfold maxLen at hpl
  have HM2 := Lib.hid hm2
  have hm3 : m2 ≤ 9223372036854775807 := by omega
  obtain ⟨LL, hLL⟩ : ∃ x, x = (if 4096 < p.length then l else l ++ digs p.length 2 ++ p) := ⟨_, rfl⟩
  obtain ⟨FF, hFF⟩ : ∃ x, x = (f || decide (4096 < p.length)) := ⟨_, rfl⟩
  rw [← hLL, ← hFF]
  have HLL := Lib.hid hLL
  have HFF := Lib.hid hFF
  have HB : Hid (Below w.heap.size w ((w.alloc (.cells #[.slice a m cap, .bool f] 112)).alloc (.cells #[.slice none 0 0, .bool false] 112))) := more (more (Below.refl _ _) _) _
  have hA : Blk ((w.alloc (.cells #[.slice a m cap, .bool f] 112)).alloc (.cells #[.slice none 0 0, .bool false] 112)) w.heap.size (.cells #[.slice a m cap, .bool f] 112) := (Blk.new _ _).old _
  have hR : Blk ((w.alloc (.cells #[.slice a m cap, .bool f] 112)).alloc (.cells #[.slice none 0 0, .bool false] 112)) (w.heap.size + 1) (.cells #[.slice none 0 0, .bool false] 112) := Blk.newAt _ (by simp)
  have HA := Lib.hid hA
  have HR := Lib.hid hR
  have hs2 : ((w.alloc (.cells #[.slice a m cap, .bool f] 112)).alloc (.cells #[.slice none 0 0, .bool false] 112)).heap.size = w.heap.size + 2 := by simp
  clear h hs hLL hFF hpl
  by_cases hbig : 4096 < m2
  · have HE : Hid (LL = l ∧ FF = true) := ⟨HLL.out.trans (if_pos (by omega)), HFF.out.trans (by rw [decide_eq_true (by omega), Bool.or_true])⟩
    clear hm2
    go_enter Try.func67, Try.ntmps67
    go_wp2_with fail
    have hE2 := HE.out
    have hBF : Below w.heap.size w ((w.alloc (.cells #[.slice a m cap, .bool true] 112)).alloc (.cells #[.slice a m cap, .bool true] 112)) := more (more (Below.refl _ _) _) _
    have hRF : Blk ((w.alloc (.cells #[.slice a m cap, .bool true] 112)).alloc (.cells #[.slice a m cap, .bool true] 112)) (w.heap.size + 1) (.cells #[.slice a m cap, .bool true] 112) := Blk.newAt _ (by simp)
    refine bodyPost_ret (v := routV (.slice a m cap) true) (results_cell_row Try.results67 _ _ (w.heap.size + 1) 112 #[.slice a m cap, .bool true] (0, 0) _ rfl hRF Try.underlying112 rfl info28) rfl ⟨_, by rw [hE2.2], by rw [hE2.1]; exact (H.out.keep hBF).mono (by have := hBF.size; omega), .inl rfl, hBF⟩
  · have hE : Hid (LL = l ++ digs p.length 2 ++ p ∧ FF = f ∧ numF f p.length 2 = f ∧ ¬ (256 : Int) ^ 2 ≤ p.length) := by
      have h2 : ¬ (256 ^ 2 : Int) ≤ p.length := by simp; omega
      exact ⟨HLL.out.trans (if_neg (by omega)), HFF.out.trans (by rw [decide_eq_false (by omega), Bool.or_false]), by unfold numF; rw [decide_eq_false h2, Bool.or_false], h2⟩
    clear hm2
    go_enter Try.func67, Try.ntmps67
    go_wp2_with fail
    generalize (w.alloc (.cells #[.slice a m cap, .bool f] 112)).alloc (.cells #[.slice none 0 0, .bool false] 112) = W at HB HA HR hA hR hs2 ⊢
    refine (rnum_any M _ l f m2 2 W (H.out.keep HB.out) (by omega) (by omega) (by omega) (by omega) (by omega)).mono ?_
    rintro r w1 ⟨v1, rfl, h1, -, hb1⟩
    rw [HM2.out, if_neg (show ¬ (256 : Int) ^ 2 ≤ p.length by have := hE.out.2.2.2; omega)] at h1
    rw [show numF f (m2 : Int) 2 = f by rw [HM2.out]; exact hE.out.2.2.1]
    have H1 := Lib.hid h1
    have HB1 : Hid (Below w.heap.size w w1) := HB.out.trans (hb1.mono (by omega))
    have HR1 := Lib.hid (hR.keep hb1)
    clear h1
    go_wp2_with fail
    refine (rraw_any w1.heap.size v1 _ _ p f w1 H1.out ((HS.out.keep HB1.out).mono (by have := HB1.out.size; omega)) ?_).mono ?_
    · rw [List.length_append, digs_len]; have := HM2.out; omega
    rintro r w2 ⟨v2, rfl, h2, hb2⟩
    have H2 := Lib.hid h2
    have HB2 : Hid (Below w.heap.size w w2) := HB1.out.trans (hb2.mono (by have := HB1.out.size; omega))
    have hR2 := HR1.out.keep hb2
    have HR2 := Lib.hid hR2
    obtain ⟨a5, n5, c5, rfl⟩ := row_shapeF h2
    have hs1 := HR1.out.lt
    obtain ⟨d0, d1, g0, g1⟩ := hR2.two
    have lt2 := hR2.lt
    clear h2 hb2 hR2 hA hR hb1
    go_wp2_with fail
    have hRF := (HR2.out.set 0 (.slice a5 n5 c5)).set 1 (.bool f)
    have hTR := (((Turn.same HR2.out).set 0 (.slice a5 n5 c5)).set 1 (.bool f)).below (B := w.heap.size) (by omega) (by omega)
    have hBF := HB2.out.trans hTR
    have hb := (H1.out.bytes).append HS.out.bytes
    have hrow := ownsRow_setCell_below (ownsRow_setCell_below H2.out (a := ⟨w.heap.size + 1, 0, none⟩) hs1 (.slice a5 n5 c5)) (a := ⟨w.heap.size + 1, 1, none⟩) hs1 (.bool f)
    refine bodyPost_ret (v := routV (.slice a5 n5 c5) f) (results_cell_row Try.results67 _ _ (w.heap.size + 1) 112 #[.slice a5 n5 c5, .bool f] (0, 0) _ rfl hRF Try.underlying112 rfl info28) rfl ⟨_, by rw [hE.out.2.1], by rw [hE.out.1]; exact HoldsB.ofRow hb hrow, .inr (by rw [hE.out.1]; exact row_monoF hrow (by omega)), hBF⟩
end Go.Proofs.Ytioeaknhcfkfcaa

namespace Go.Proofs.Ytioeaknhcfkfcaa
open Go.RowKit

theorem OutIs.ne {w : World} {O b : Nat} {v : Value} {l : List Int} {f : Bool} (h : OutIs w O v l f) (hb : b < O) : b ≠ O ∧ v.ownBlock ≠ some b := by
  refine ⟨by omega, fun e => ?_⟩
  have := NewV.of h.row b e
  omega
/-- The program's Put, on its way. -/
structure PSt (w : World) (F O : Nat) (p : PV) (tp : List Int) (v : Value) (L : List Int) (f : Bool) (W : World) : Prop where
  o : OutIs W O v L f
  b : Blk W F (.cells #[.int .u32 p.id, .int .i64 p.at_, .int .i64 p.many, .slice p.a p.n p.c] 103)
  t : HoldsB W F (.slice p.a p.n p.c) tp
  below : Below F w W
  fo : F < O
theorem PSt.step {w W W' : World} {F O : Nat} {p : PV} {tp L L' : List Int} {v v' : Value} {f f' : Bool} (h : PSt w F O p tp v L f W) (hs : OutStep O v v' L' f' W W') : PSt w F O p tp v' L' f' W' := by
  have hn := h.o.ne h.fo
  refine ⟨hs.is, hs.keep h.b hn.1 hn.2, hs.holds h.o h.t (by have := h.fo; omega), hs.belowNew h.below (by have := h.fo; omega) (fun k hk => ?_) (by have := h.b.lt; omega), h.fo⟩
  have := NewV.of h.o.row k hk
  have := h.fo
  omega
def putM (p : PV) (tp : List Int) : List Int := digs p.id 4 ++ digs p.at_ 1 ++ digs p.many 1 ++ digs tp.length 2 ++ tp
theorem rightB_is {p : PV} (h : rightB p = true) : 1 ≤ p.many ∧ p.many ≤ 32 ∧ 0 ≤ p.at_ ∧ p.at_ < p.many ∧ p.n ≤ 4096 := by unfold rightB at h; exact of_decide_eq_true h
theorem numL_ok {l : List Int} {n : Int} {k : Nat} (h : n < 256 ^ k) : numL l false n k = l ++ digs n k ∧ numF false n k = false := by
  unfold numL numF
  rw [if_neg (by omega), if_neg (by decide)]
  exact ⟨rfl, by simp; omega⟩
set_option maxRecDepth 100000 in
set_option maxHeartbeats 2000000 in
theorem put_bad (p : PV) (w : World) (h : rightB p = false) : Calls Try.prog 42 #[p.v] w fun r w' => r = .returned (.tuple #[.slice none 0 0, .int .i64 1]) ∧ Below w.heap.size w w' := by
  go_enter Try.func42, Try.ntmps42
  go_wp2_with fail
  refine (right_any p _).mono ?_
  rintro r w1 ⟨rfl, hb⟩
  have HB1 : Kp (Below w.heap.size w w1) := ⟨(more (Below.refl _ _) _).trans (hb.mono (by simp))⟩
  clear hb
  rw [h]
  go_wp2_with fail
  exact bodyPost_ret (results_tmp2 rfl _ _ _) rfl ⟨rfl, HB1.out⟩
set_option maxRecDepth 100000 in
set_option maxHeartbeats 4000000 in
theorem put_good (p : PV) (tp : List Int) (w : World) (h : HoldsB w w.heap.size (.slice p.a p.n p.c) tp) (hr : rightB p = true) (hid : 0 ≤ p.id ∧ p.id ≤ 4294967295) :
    Calls Try.prog 42 #[p.v] w fun r w' => ∃ v, r = .returned (.tuple #[v, .int .i64 0]) ∧ HoldsB w' w'.heap.size v (putM p tp) ∧ Below w.heap.size w w' := by
  have H := Kp.mk h
  have HR := Kp.mk (rightB_is hr)
  have hn : p.n = tp.length := by
    obtain ⟨a1, n1, c1, e1, e2⟩ := h.slice
    simp only [Value.slice.injEq] at e1
    omega
  have HNT : Kp (tp.length ≤ 4096) := ⟨by rw [← hn]; exact HR.out.2.2.2.2⟩
  have HID := Kp.mk hid
  have hw1 : IntKind.u64.wrap p.id = p.id := by simp [IntKind.wrap, IntKind.bits, IntKind.signed]; omega
  have hw2 : IntKind.u64.wrap p.at_ = p.at_ := by have := HR.out; simp [IntKind.wrap, IntKind.bits, IntKind.signed]; omega
  have hw3 : IntKind.u64.wrap p.many = p.many := by have := HR.out; simp [IntKind.wrap, IntKind.bits, IntKind.signed]; omega
  clear h hn hid
  go_enter Try.func42, Try.ntmps42
  go_wp2_with fail
  refine (right_any p _).mono ?_
  rintro r w1 ⟨rfl, hb⟩
  obtain ⟨F, hF⟩ : ∃ F, F = w.heap.size := ⟨_, rfl⟩
  have HFe := Kp.mk hF
  have HB1 : Kp (Below F w w1) := ⟨by rw [hF]; exact (more (Below.refl _ _) _).trans (hb.mono (by simp))⟩
  have HP1 : Kp (Blk w1 F (.cells #[.int .u32 p.id, .int .i64 p.at_, .int .i64 p.many, .slice p.a p.n p.c] 103)) := ⟨(Blk.newAt _ hF).keep hb⟩
  have HT1 : Kp (HoldsB w1 F (.slice p.a p.n p.c) tp) := ⟨by rw [hF]; exact (H.out.alloc _).keep hb⟩
  rw [← hF, hr]
  clear hb hF hr
  go_wp2_with fail
  refine (lay_any w1).mono ?_
  rintro r w2 ⟨rfl, rfl⟩
  obtain ⟨O, hO⟩ : ∃ O, O = w1.heap.size := ⟨_, rfl⟩
  have S2 : Kp (PSt w F O p tp (.slice none 0 0) [] false (w1.alloc (outObj (.slice none 0 0) false))) := ⟨by rw [hO]; exact ⟨OutIs.laid w1, HP1.out.old _, HT1.out.alloc _, HB1.out.alloc (by have := HP1.out.lt; omega) _, HP1.out.lt⟩⟩
  rw [← hO]
  clear hO HP1 HT1 HB1
  generalize w1.alloc (outObj (.slice none 0 0) false) = W2 at *
  have p0 : W2.cell? ⟨F, 0, none⟩ = some (.int .u32 p.id) := S2.out.b.cell 0
  go_wp2_with fail
  refine (u32o_any O _ _ _ p.id W2 S2.out.o HID.out.1 (by have := HID.out; omega) (by simp)).mono ?_
  rintro r w3 ⟨rfl, v3, s3⟩
  have e3 := numL_ok (l := []) (n := p.id) (k := 4) (by have := HID.out; omega)
  rw [e3.1, e3.2] at s3
  have S3 := Kp.mk (S2.out.step s3)
  clear s3 p0 e3
  have p1 : w3.cell? ⟨F, 1, none⟩ = some (.int .i64 p.at_) := S3.out.b.cell 1
  obtain ⟨L3, hL3⟩ : ∃ L3, L3 = [] ++ digs p.id 4 := ⟨_, rfl⟩
  have H3 : Kp (L3.length = 4) := ⟨by rw [hL3]; simp [digs_len]⟩
  rw [← hL3] at S3
  have HL3 := Kp.mk hL3
  clear hL3
  go_wp2_with fail
  refine (u8o_any O _ _ _ p.at_ w3 S3.out.o HR.out.2.2.1 (by have := HR.out; omega) (by rw [H3.out]; omega)).mono ?_
  rintro r w4 ⟨rfl, v4, s4⟩
  have e4 := numL_ok (l := L3) (n := p.at_) (k := 1) (by have := HR.out; omega)
  rw [e4.1, e4.2] at s4
  have S4 := Kp.mk (S3.out.step s4)
  clear s4 p1 e4
  have p2 : w4.cell? ⟨F, 2, none⟩ = some (.int .i64 p.many) := S4.out.b.cell 2
  obtain ⟨L4, hL4⟩ : ∃ L4, L4 = L3 ++ digs p.at_ 1 := ⟨_, rfl⟩
  have H4 : Kp (L4.length = 5) := ⟨by rw [hL4]; simp [digs_len, H3.out]⟩
  rw [← hL4] at S4
  have HL4 := Kp.mk hL4
  clear hL4
  go_wp2_with fail
  refine (u8o_any O _ _ _ p.many w4 S4.out.o (by have := HR.out; omega) (by have := HR.out; omega) (by rw [H4.out]; omega)).mono ?_
  rintro r w5 ⟨rfl, v5, s5⟩
  have e5 := numL_ok (l := L4) (n := p.many) (k := 1) (by have := HR.out; omega)
  rw [e5.1, e5.2] at s5
  have S5 := Kp.mk (S4.out.step s5)
  clear s5 p2 e5
  have p3 : w5.cell? ⟨F, 3, none⟩ = some (.slice p.a p.n p.c) := S5.out.b.cell 3
  obtain ⟨L5, hL5⟩ : ∃ L5, L5 = L4 ++ digs p.many 1 := ⟨_, rfl⟩
  have H5 : Kp (L5.length = 6) := ⟨by rw [hL5]; simp [digs_len, H4.out]⟩
  rw [← hL5] at S5
  have HL5 := Kp.mk hL5
  clear hL5
  go_wp2_with fail
  refine (blobo_any O F _ _ _ _ _ w5 S5.out.o S5.out.t (by have := S5.out.fo; omega) (by rw [H5.out]; omega)).mono ?_
  rintro r w6 ⟨rfl, v6, s6⟩
  have e6 : blobL' L5 tp false = putM p tp ∧ blobF' tp false = false := by
    unfold blobL' blobF' putM
    have := HNT.out
    rw [if_neg (by omega), if_neg (by decide), HL5.out, HL4.out, HL3.out]
    exact ⟨by simp, by simp; omega⟩
  rw [e6.1, e6.2] at s6
  have S6 := Kp.mk (S5.out.step s6)
  clear s6 p3 e6
  have HLN : Kp ((putM p tp).length ≤ 1000000) := ⟨by unfold putM; simp [digs_len]; have := HNT.out; omega⟩
  obtain ⟨PM, hPM⟩ : ∃ PM, PM = putM p tp := ⟨_, rfl⟩
  rw [← hPM] at S6 HLN
  have HPM := Kp.mk hPM
  clear hPM
  go_wp2_with fail
  refine (bytes_any O _ _ _ w6 S6.out.o (by have := HLN.out; omega)).mono ?_
  rintro r w7 ⟨v7, rfl, h7, hb⟩
  have HB7 : Kp (Below F w w7) := ⟨S6.out.below.trans (hb.mono (by have := S6.out.b.lt; omega))⟩
  have H7 : Kp (HoldsB w7 w7.heap.size v7 PM) := ⟨HoldsB.ofRow S6.out.o.bytes h7⟩
  clear h7 hb
  go_wp2_with fail
  exact bodyPost_ret (results_tmp2 rfl _ _ _) rfl ⟨v7, rfl, by rw [← HPM.out]; exact H7.out, by rw [← HFe.out]; exact HB7.out⟩
end Go.Proofs.Ytioeaknhcfkfcaa
