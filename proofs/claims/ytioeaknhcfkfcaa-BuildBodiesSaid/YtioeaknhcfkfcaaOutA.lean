/-
  The contracts of Out's small calls.
-/
import Derived.Test.YtioeaknhcfkfcaaClone
import Derived.ArgAppend
import Derived.OwnWalk
namespace Go.Proofs.Ytioeaknhcfkfcaa
open Go.RowKit

abbrev outObj (v : Value) (f : Bool) : Obj := .cells #[v, .bool f] 118
/-- In block O stands an Out that has laid the bytes l. -/
structure OutIs (w : World) (O : Nat) (v : Value) (l : List Int) (f : Bool) : Prop where
  blk : Blk w O (outObj v f)
  row : w.ownsRow (O + 1) 5 1 v l.length (bv l)
  bytes : Bytes l
/-- What a call on Out makes of it; all else is as it was. -/
structure OutStep (O : Nat) (v v' : Value) (l : List Int) (f : Bool) (w w' : World) : Prop where
  is : OutIs w' O v' l f
  os : w'.os = w.os
  tape : w'.tape = w.tape
  output : w'.output = w.output
  size : w.heap.size ≤ w'.heap.size
  other : ∀ k, k < w.heap.size → k ≠ O → v.ownBlock ≠ some k → w'.heap[k]? = w.heap[k]?
  own : ∀ k, v'.ownBlock = some k → v.ownBlock = some k ∨ w.heap.size ≤ k
theorem OutIs.keep {w w' : World} {O : Nat} {v : Value} {l : List Int} {f : Bool} (h : OutIs w O v l f) (hb : Below w.heap.size w w') : OutIs w' O v l f :=
  ⟨h.blk.keep hb, ownsRow_below h.row hb, h.bytes⟩
theorem OutIs.shape {w : World} {O : Nat} {v : Value} {l : List Int} {f : Bool} (h : OutIs w O v l f) : ∃ a n cap, v = .slice a n cap := by
  rcases h.row.2 with ⟨rfl, _⟩ | ⟨g, cap, cur, rfl, _⟩ <;> exact ⟨_, _, _, rfl⟩
theorem OutIs.holds {w : World} {O : Nat} {v : Value} {l : List Int} {f : Bool} (h : OutIs w O v l f) : HoldsB w w.heap.size v l := HoldsB.ofRow h.bytes h.row
theorem OutStep.below {w w' : World} {O : Nat} {v : Value} {l : List Int} {f : Bool} (h : OutIs w O v l f) (hb : Below w.heap.size w w') : OutStep O v v l f w w' :=
  ⟨h.keep hb, hb.os, hb.tape, hb.output, hb.size, fun k hk _ _ => hb.block k hk, fun k hk => .inl hk⟩
theorem OutStep.trans {w w1 w2 : World} {O : Nat} {v v1 v2 : Value} {l l2 : List Int} {f f2 : Bool} (h : OutStep O v v1 l f w w1) (k : OutStep O v1 v2 l2 f2 w1 w2) : OutStep O v v2 l2 f2 w w2 :=
  ⟨k.is, k.os.trans h.os, k.tape.trans h.tape, k.output.trans h.output, Nat.le_trans h.size k.size,
    fun i hi hO hv => (k.other i (Nat.lt_of_lt_of_le hi h.size) hO (fun e => by rcases h.own i e with h | h; exact hv h; omega)).trans (h.other i hi hO hv),
    fun i hi => by
      rcases k.own i hi with h1 | h1
      · exact h.own i h1
      · exact .inr (Nat.le_trans h.size h1)⟩
theorem OutStep.more {w w1 w2 : World} {O : Nat} {v v1 : Value} {l : List Int} {f : Bool} (h : OutStep O v v1 l f w w1) (hb : Below w1.heap.size w1 w2) : OutStep O v v1 l f w w2 := h.trans (OutStep.below h.is hb)
theorem OutStep.ahead {w w1 w2 : World} {O : Nat} {v v1 : Value} {l l0 : List Int} {f f0 : Bool} (h0 : OutIs w O v l0 f0) (hb : Below w.heap.size w w1) (h : OutStep O v v1 l f w1 w2) : OutStep O v v1 l f w w2 := (OutStep.below h0 hb).trans h
/-- A block that is neither the Out's nor its row's. -/
theorem OutStep.keep {w w1 : World} {O b : Nat} {v v1 : Value} {l : List Int} {f : Bool} {o : Obj} (h : OutStep O v v1 l f w w1) (hb : Blk w b o) (hO : b ≠ O) (hv : v.ownBlock ≠ some b) : Blk w1 b o := (h.other b hb.lt hO hv).trans hb

/-- append to a row of the call's own, and in which block what comes of it lies. -/
theorem wpList_append_own2F {P : Program} {w : World} {ops : Array Oper} {rest : List Oper} {o : Oper} {a : Act} {Q : Exit → Act → World → Prop} (hgd : o.guard = none) (s x : Operand) (t : TypeId)
    (ho : o.op = .call { callee := .builtin .append, args := #[s, x], argTypes := #[t, t] })
    (base : Nat) (e : TypeId) (i : TypeInfo) (z : Value) (size bytes : Nat) (ht : P.underlying t = some (.slice e)) (hi : P.info? e = some i) (hz : i.zero = some z)
    (hsize : i.size = size) (hby : i.bytes = bytes) (hzs : z.cells.size = size) (hsz : 0 < size)
    (v : Value) (n : Nat) (xs : List Value) (hs : a.eval s = v) (hown : w.ownsRow base e size v n xs)
    (ad : Addr) (m c : Nat) (news : List Value) (hx : a.eval x = .slice (some ad) m c) (hl : news.length = m * size) (hnews : ∀ j u, news[j]? = some u → w.cell? (ad.add j) = some u) (h1 : ∀ u ∈ news, u.oneCell' = true)
    (h63 : n + m ≤ maxLen) (hbytes : (n + m) * bytes ≤ 140737488355328) (hbase : base ≤ w.heap.size)
    (h : ∀ v' w', w'.ownsRow base e size v' (n + m) (xs ++ news) → w.grownBy w' v.ownBlock → (∀ k, v'.ownBlock = some k → v.ownBlock = some k ∨ w.heap.size ≤ k) → wpList P ops Q rest (a.put o.dst v') w') : wpList P ops Q (o :: rest) a w := by
  have hv := hown.2
  rcases hv with ⟨hv, h0⟩ | ⟨g, cap, cur, hv, hg, hh, hn, hc, hsz2, htk⟩
  · subst h0
    have hxs : xs = [] := List.eq_nil_of_length_eq_zero (by simpa using hown.1)
    subst hxs
    refine wpList_plain hgd fun K hK => ?_
    rw [hv] at hs
    obtain ⟨v', w', hrun, r1, r2, _⟩ := run_append_own (P := P) w w.heap.size t o.type e i z size bytes ht hi hz hsize hby hzs hsz (.slice none 0 0) 0 [] (World.ownsRow_nil w _ e size) ad m c news hl hnews h1 h63 hbytes (Nat.le_refl _)
    unfold Oper.wp
    simp [execOp, ho, resolve, invoke, builtin, hs, hx, hrun, Result.andThen]
    refine hK _ _ (h v' w' (ownsRow_base r1 hbase) (by rw [hv]; exact r2) fun k hk => .inr (r1.lt k hk).1)
  · subst hv
    by_cases hroom : n + m ≤ cap
    · refine wpList_append_fits w hgd s x t ho base e i size ht hi hsize g n cap xs hs hown ad m c news hx hl hnews h1 hroom fun w' h2 h3 => ?_
      exact h _ w' h2 h3 fun k hk => .inl hk
    · refine wpList_append_grows w hgd s x t ho e i z size bytes ht hi hz hsize hby hzs hsz (some ⟨g, 0, none⟩) n cap xs hs (fun e => by cases e) hown.1 (fun b hb => by cases hb; exact hown.cells rfl) ad m c news hx hl hnews h1 (by omega) h63 hbytes fun v' w' h2 h3 => ?_
      exact h v' w' (ownsRow_base h2 hbase) ⟨h3.os, h3.tape, h3.output, h3.size, fun k hk _ => h3.block k hk (by simp)⟩ fun k hk => .inr (h2.lt k hk).1

def putL (l p : List Int) (f : Bool) : List Int := if f then l else l ++ p

set_option maxRecDepth 100000 in
set_option maxHeartbeats 1600000 in
theorem put_any (O M : Nat) (v s : Value) (l p : List Int) (f : Bool) (w : World) (h : OutIs w O v l f) (hs : HoldsB w M s p) (hlen : l.length + p.length ≤ 1099511627776) :
    Calls Try.prog 69 #[.pointer (some ⟨O, 0, none⟩), s] w fun r w' => r = .returned (.tuple #[]) ∧ ∃ v', OutStep O v v' (putL l p f) f w w' := by
  have H := Lib.hid h
  have HS := Lib.hid hs
  obtain ⟨c0, c1, f0, f1⟩ := h.blk.two
  have lO := h.blk.lt
  obtain ⟨i0, hi, hz0, hz1, hz2⟩ := info_parts info5
  obtain ⟨a, n, cap, rfl, hn⟩ := hs.slice
  have HN := Lib.hid hn
  have hln : l.length + n ≤ 1099511627776 := by omega
  clear h hs hn hlen
  cases f with
  | true =>
    have HP : Hid (OutStep O v v (putL l p true) true w w) := OutStep.below H.out (Below.refl _ _)
    go_enter Try.func69, Try.ntmps69
    go_wp2_with fail
    go_end0
    exact ⟨rfl, _, HP.out⟩
  | false =>
    cases a with
    | none =>
      have hp0 : Hid (p = []) := by
        obtain ⟨a', cap', h1, h2, h3, h4, h5, h6, h7⟩ := HS.out
        simp only [Value.slice.injEq] at h1
        have := h4 h1.1.symm
        exact List.length_eq_zero_iff.1 (by omega)
      have hc0 : n = 0 ∧ cap = 0 := by
        obtain ⟨a', cap', h1, h2, h3, h4, h5, h6, h7⟩ := HS.out
        simp only [Value.slice.injEq] at h1
        have := h4 h1.1.symm
        omega
      obtain ⟨rfl, rfl⟩ := hc0
      obtain ⟨av, nv, cv, rfl⟩ := H.out.shape
      have hT : Turn O (outObj (.slice av nv cv) false) w (w.setCell ⟨O, 0, none⟩ (.slice av nv cv)) := ((Turn.same H.out.blk).set 0 _).as rfl
      have HT := Lib.hid hT
      clear hT
      go_enter Try.func69, Try.ntmps69
      go_wp2_with (at_builtin; refine wpList_append_own_none rfl _ _ 39 rfl (O + 1) 5 i0 1 Try.underlying39 hi _ _ _ rfl H.out.row rfl ?_)
      go_end0
      have hT := HT.out
      refine ⟨rfl, _, ⟨hT.blk, ?_, ?_⟩, hT.os, hT.tape, hT.output, hT.size, fun k hk hO _ => hT.other k hk hO, fun k hk => .inl hk⟩
      · have := ownsRow_turn H.out.row hT (Nat.lt_succ_self O)
        unfold putL
        rw [hp0.out]
        simpa using this
      · unfold putL
        rw [hp0.out]
        simpa using H.out.bytes
    | some ad =>
      go_enter Try.func69, Try.ntmps69
      go_wp2_with (at_builtin; refine wpList_append_own2F rfl _ _ 39 rfl (O + 1) 5 i0 (.int .u8 0) 1 1 Try.underlying39 hi hz0 hz1 hz2 rfl (by decide) _ _ _ rfl H.out.row ad n cap (bv p) rfl ?c0 HS.out.news ?c2 ?c3 ?c4 ?c5 ?_)
      case c0 => rw [bv_len, HN.out]
      case c2 => exact bv_one _
      case c3 => unfold maxLen; omega
      case c4 => omega
      case c5 => omega
      · intro v' w2 hown' hgrow how
        have HOW := Lib.hid how
        have HO2 := Lib.hid hown'
        have HG2 := Lib.hid hgrow
        have hvO : v.ownBlock ≠ some O := fun e => by have := (H.out.row.lt O e).1; omega
        have hB2 : Blk w2 O (outObj v false) := (hgrow.block O lO (fun e => hvO e.symm)).trans H.out.blk
        obtain ⟨d0, d1, g0, g1⟩ := hB2.two
        have lO2 := hB2.lt
        have hsh : ∃ av nv cv, v' = .slice av nv cv := by
          rcases hown'.2 with ⟨rfl, _⟩ | ⟨g, cap, cur, rfl, _⟩ <;> exact ⟨_, _, _, rfl⟩
        obtain ⟨av, nv, cv, rfl⟩ := hsh
        have HB2 := Lib.hid hB2
        have HVO := Lib.hid hvO
        clear hown' hgrow how c0 c1 f0 f1 lO hB2 hvO
        go_wp2_with fail
        go_end0
        have hT : Turn O (outObj (.slice av nv cv) false) w2 (w2.setCell ⟨O, 0, none⟩ (.slice av nv cv)) := ((Turn.same HB2.out).set 0 _).as rfl
        have hrow : (w2.setCell ⟨O, 0, none⟩ (.slice av nv cv)).ownsRow (O + 1) 5 1 (.slice av nv cv) (l ++ p).length (bv (l ++ p)) := by
          have := ownsRow_turn HO2.out hT (Nat.lt_succ_self O)
          rw [List.length_append, ← HN.out]
          unfold bv
          rw [List.map_append]
          exact this
        refine ⟨rfl, .slice av nv cv, ⟨hT.blk, hrow, H.out.bytes.append HS.out.bytes⟩, hT.os.trans HG2.out.os, hT.tape.trans HG2.out.tape, hT.output.trans HG2.out.output, Nat.le_trans HG2.out.size hT.size,
          fun k hk hO hv => (hT.other k (Nat.lt_of_lt_of_le hk HG2.out.size) hO).trans (HG2.out.block k hk (fun e => hv e.symm)), HOW.out⟩
end Go.Proofs.Ytioeaknhcfkfcaa
