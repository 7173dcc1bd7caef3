/-
  Rows of texts: what the document's Node hands back.
  The document's Node.
  The document's Node, at whatever level.
  Levels, UpCost, RiseCost: the program's and the document's.
  isRung, isNode, the document's Right.
  The law's To.
  A row of short sums, made.
  ladder.tree at width one (its first loop stands for every width: cut there for the others).
  ladder.above: the row above a row.
-/
import Derived.Test.YtibbinenhmiclaaDoorSn06
import Derived.Deep.MidRow
import Derived.Laws.CopyOwn
namespace Go.Proofs.YtibbinenhmiclaaDoor
open Go.RowKit

theorem info22 : (Tryd.prog.info? 131).map (fun i => (i.zero, i.size, i.bytes)) = some (some (.slice none 0 0), 1, 24) := by kernel_rfl
/-- The slice v shows texts: its row lies below N, their bytes below M. -/
def TextsAt (w : World) (N M : Nat) (v : Value) (ts : List (List Int)) : Prop :=
  ∃ a cap, v = .slice a ts.length cap ∧ ∀ i, i < ts.length → ∃ b off a1 n1 c1, a = some ⟨b, off, none⟩ ∧ b < N ∧ b < w.heap.size ∧ w.cell? ⟨b, off + i, none⟩ = some (.slice a1 n1 c1) ∧ HoldsB w M (.slice a1 n1 c1) (ts.getD i [])
theorem HoldsP.texts {w : World} {v : Value} {ts : List (List Int)} (h : HoldsP w v ts) : TextsAt w w.heap.size w.heap.size v ts := by
  obtain ⟨a, cap, e, _, h3⟩ := h
  refine ⟨a, cap, e, fun i hi => ?_⟩
  obtain ⟨b, off, a1, n1, c1, e1, e2, e3, e4⟩ := h3 i hi
  exact ⟨b, off, a1, n1, c1, e1, e2, e2, e3, e4⟩
theorem HoldsB.upto {w w' : World} {M B : Nat} {v : Value} {l : List Int} (h : HoldsB w M v l) (hb : Below B w w') (hM : M ≤ B) : HoldsB w' M v l := h.frame hb.size fun k hk _ => hb.block k (by omega)
theorem TextsAt.upto {w w' : World} {N M B : Nat} {v : Value} {ts : List (List Int)} (h : TextsAt w N M v ts) (hb : Below B w w') (hN : N ≤ B) (hM : M ≤ B) : TextsAt w' N M v ts := by
  obtain ⟨a, cap, e, h3⟩ := h
  refine ⟨a, cap, e, fun i hi => ?_⟩
  obtain ⟨b, off, a1, n1, c1, e1, e2, e3, e4, e5⟩ := h3 i hi
  exact ⟨b, off, a1, n1, c1, e1, e2, Nat.lt_of_lt_of_le e3 hb.size, (World.cell?_of_block (w := w) (a := ⟨b, off + i, none⟩) (hb.block b (by omega))).trans e4, e5.upto hb hM⟩
theorem TextsAt.mono {w : World} {N M N' M' : Nat} {v : Value} {ts : List (List Int)} (h : TextsAt w N M v ts) (hN : N ≤ N') (hM : M ≤ M') : TextsAt w N' M' v ts := by
  obtain ⟨a, cap, e, h3⟩ := h
  refine ⟨a, cap, e, fun i hi => ?_⟩
  obtain ⟨b, off, a1, n1, c1, e1, e2, e3, e4, e5⟩ := h3 i hi
  exact ⟨b, off, a1, n1, c1, e1, by omega, e3, e4, e5.mono hM⟩
/-- A row of texts that the call made. -/
def RowT (w : World) (base M : Nat) (v : Value) (ts : List (List Int)) : Prop :=
  ∃ vs : List Value, w.ownsRow base 131 1 v ts.length vs ∧ vs.length = ts.length ∧ ∀ i, i < ts.length → ∃ a n c, vs[i]? = some (.slice a n c) ∧ HoldsB w M (.slice a n c) (ts.getD i [])
theorem RowT.nil (w : World) (base M : Nat) : RowT w base M (.slice none 0 0) [] := ⟨[], World.ownsRow_nil _ _ _ _, rfl, fun i hi => by simp at hi⟩
theorem RowT.below {w w' : World} {base M : Nat} {v : Value} {ts : List (List Int)} (h : RowT w base M v ts) (hb : Below w.heap.size w w') : RowT w' base M v ts := by
  obtain ⟨vs, h1, h2, h3⟩ := h
  refine ⟨vs, ownsRow_below h1 hb, h2, fun i hi => ?_⟩
  obtain ⟨a, n, c, e, hh⟩ := h3 i hi
  exact ⟨a, n, c, e, hh.keep hb⟩
theorem RowT.slice {w : World} {base M : Nat} {v : Value} {ts : List (List Int)} (h : RowT w base M v ts) : ∃ a c, v = .slice a ts.length c := by
  obtain ⟨vs, h1, _, _⟩ := h
  rcases h1.2 with ⟨rfl, hn⟩ | ⟨g, cap, cur, rfl, _⟩
  · rw [hn]; exact ⟨_, _, rfl⟩
  · exact ⟨_, _, rfl⟩
/-- Such a row shows its texts. -/
theorem RowT.holds {w : World} {base M : Nat} {v : Value} {ts : List (List Int)} (h : RowT w base M v ts) (hM : M ≤ w.heap.size) : HoldsP w v ts := by
  obtain ⟨vs, h1, h2, h3⟩ := h
  rcases h1.2 with ⟨rfl, hn⟩ | ⟨g, cap, cur, rfl, hb, hg, hle, hcap, hsz, ht⟩
  · have : ts = [] := List.length_eq_zero_iff.1 hn
    subst this
    exact ⟨none, 0, rfl, by unfold maxLen; simp, fun i hi => by simp at hi⟩
  · refine ⟨_, cap, rfl, by omega, fun i hi => ?_⟩
    obtain ⟨a, n, c, e, hh⟩ := h3 i hi
    refine ⟨g, 0, a, n, c, rfl, (Array.getElem?_eq_some_iff.1 hg).1, ?_, hh.mono hM⟩
    rw [cell_of_row w g (0 + i) cur 131 (0, 0) hg, Nat.zero_add, ← Array.getElem?_toList, ← e, ← ht, List.getElem?_take, if_pos (by omega)]
/-- The values of a row that shows texts. -/
theorem TextsAt.vals {w : World} {N M : Nat} {v : Value} {ts : List (List Int)} (h : TextsAt w N M v ts) (h0 : 0 < ts.length) :
    ∃ ad c, ∃ vs : List Value, v = .slice (some ad) ts.length c ∧ vs.length = ts.length ∧ (∀ j u, vs[j]? = some u → w.cell? (ad.add j) = some u) ∧ (∀ u ∈ vs, u.oneCell' = true) ∧
      ∀ i, i < ts.length → ∃ a n c, vs[i]? = some (.slice a n c) ∧ HoldsB w M (.slice a n c) (ts.getD i []) := by
  obtain ⟨a, cap, rfl, h3⟩ := h
  obtain ⟨b, off, _, _, _, e0, _⟩ := h3 0 h0
  subst e0
  have each : ∀ i, i < ts.length → ∃ a1 n1 c1, w.cell? ⟨b, off + i, none⟩ = some (.slice a1 n1 c1) ∧ HoldsB w M (.slice a1 n1 c1) (ts.getD i []) := fun i hi => by
    obtain ⟨b', off', a1, n1, c1, e, _, _, hc, hh⟩ := h3 i hi
    simp only [Option.some.injEq, Addr.mk.injEq, and_true] at e
    obtain ⟨rfl, rfl⟩ := e
    exact ⟨a1, n1, c1, hc, hh⟩
  obtain ⟨f, hf⟩ : ∃ f : Nat → Value, ∀ i, i < ts.length → (∃ a1 n1 c1, f i = .slice a1 n1 c1 ∧ HoldsB w M (.slice a1 n1 c1) (ts.getD i [])) ∧ w.cell? ⟨b, off + i, none⟩ = some (f i) := by
    refine ⟨fun i => (w.cell? ⟨b, off + i, none⟩).getD undef, fun i hi => ?_⟩
    obtain ⟨a1, n1, c1, hc, hh⟩ := each i hi
    simp only [hc, Option.getD_some]
    exact ⟨⟨a1, n1, c1, rfl, hh⟩, trivial⟩
  refine ⟨⟨b, off, none⟩, cap, (List.range ts.length).map f, rfl, by simp, fun j u hu => ?_, fun u hu => ?_, fun i hi => ?_⟩
  · have e : (⟨b, off, none⟩ : Addr).add j = ⟨b, off + j, none⟩ := by unfold Addr.add; split <;> simp_all
    rw [e]
    by_cases hj : j < ts.length
    · rw [List.getElem?_map, List.getElem?_range hj] at hu
      rw [(hf j hj).2]
      exact hu
    · rw [List.getElem?_eq_none (by simp; omega)] at hu
      cases hu
  · obtain ⟨i, hi, rfl⟩ := List.mem_map.1 hu
    obtain ⟨⟨a1, n1, c1, e, _⟩, _⟩ := hf i (List.mem_range.1 hi)
    rw [e]
    rfl
  · obtain ⟨⟨a1, n1, c1, e, hh⟩, _⟩ := hf i hi
    exact ⟨a1, n1, c1, by rw [List.getElem?_map, List.getElem?_range hi]; exact congrArg some e, hh⟩
/-- append of texts that stand somewhere, to a row of the call's own. -/
theorem wpList_append_texts {w : World} {ops : Array Oper} {rest : List Oper} {o : Oper} {a : Act} {Q : Exit → Act → World → Prop} (hgd : o.guard = none) (s x : Operand)
    (ho : o.op = .call { callee := .builtin .append, args := #[s, x], argTypes := #[150, 150] })
    (base N M : Nat) (v : Value) (ts us : List (List Int)) (hs : a.eval s = v) (hown : RowT w base M v ts) (hM : M ≤ base) (u : Value) (hx : a.eval x = u) (hp : TextsAt w N M u us) (h0 : 0 < us.length) (h63 : ts.length + us.length ≤ 1000000) (hbase : base ≤ w.heap.size)
    (h : ∀ v' w', RowT w' base M v' (ts ++ us) → Below base w w' → wpList Tryd.prog ops Q rest (a.put o.dst v') w') : wpList Tryd.prog ops Q (o :: rest) a w := by
  obtain ⟨i0, hi, hz0, hz1, hz2⟩ := info_parts info22
  obtain ⟨vs, h1, h2, h3⟩ := hown
  obtain ⟨ad, c, ws, rfl, k1, k2, k3, k4⟩ := hp.vals h0
  refine wpList_append_own w hgd s x 150 ho base 131 i0 (.slice none 0 0) 1 24 Tryd.underlying150 hi hz0 hz1 hz2 rfl (by decide) v ts.length vs hs h1 ad us.length c ws hx (by rw [k1]; omega) k2 k3 (by unfold maxLen; omega) (by omega) hbase fun v' w' r1 r2 _ => ?_
  have hb : Below base w w' := below_row_grown (Below.refl _ _) hbase h1 r2
  refine h v' w' ⟨vs ++ ws, by rw [List.length_append]; exact r1, by simp [h2, k1], fun i hi => ?_⟩ hb
  rw [List.length_append] at hi
  by_cases hlt : i < ts.length
  · obtain ⟨a1, n1, c1, e, hh⟩ := h3 i hlt
    refine ⟨a1, n1, c1, by rw [List.getElem?_append_left (by omega)]; exact e, ?_⟩
    have hg : (ts ++ us).getD i [] = ts.getD i [] := by rw [List.getD_eq_getElem?_getD, List.getD_eq_getElem?_getD, List.getElem?_append_left hlt]
    rw [hg]
    exact hh.upto hb hM
  · obtain ⟨a1, n1, c1, e, hh⟩ := k4 (i - ts.length) (by omega)
    refine ⟨a1, n1, c1, by rw [List.getElem?_append_right (by omega), h2]; exact e, ?_⟩
    have hg : (ts ++ us).getD i [] = us.getD (i - ts.length) [] := by rw [List.getD_eq_getElem?_getD, List.getD_eq_getElem?_getD, List.getElem?_append_right (by omega)]
    rw [hg]
    exact hh.upto hb hM
end Go.Proofs.YtibbinenhmiclaaDoor

namespace Go.Proofs.YtibbinenhmiclaaDoor
open Go.RowKit

/-- What stands in a rung's tree at a level and a place; the texts that are summed for it. -/
def nodeS (d e s r : Int) (el : List Int) : Nat → Int → List Int
  | 0, p => shortL (leafT d e s r el p)
  | k + 1, p => shortL (joinT d e s r (nodeS d e s r el k (2 * p)) (nodeS d e s r el k (2 * p + 1)))
def nodeT (d e s r : Int) (el : List Int) : Nat → Int → List (List Int)
  | 0, p => [leafT d e s r el p]
  | k + 1, p => (nodeT d e s r el k (2 * p) ++ nodeT d e s r el k (2 * p + 1)) ++ [joinT d e s r (nodeS d e s r el k (2 * p)) (nodeS d e s r el k (2 * p + 1))]
theorem nodeS_len (d e s r : Int) (el : List Int) (k : Nat) (p : Int) : (nodeS d e s r el k p).length = 16 := by
  cases k <;> exact shortL_len _
theorem nodeS_bytes (d e s r : Int) (el : List Int) (k : Nat) (p : Int) : Bytes (nodeS d e s r el k p) := by
  cases k <;> exact shortL_bytes _
theorem nodeT_len (d e s r : Int) (el : List Int) (k : Nat) : ∀ p, (nodeT d e s r el k p).length = 2 ^ (k + 1) - 1 := by
  induction k with
  | zero => intro p; rfl
  | succ k ih =>
    intro p
    simp only [nodeT, List.length_append, ih, List.length_cons, List.length_nil]
    have : 2 ^ (k + 1 + 1) = 2 * 2 ^ (k + 1) := by rw [Nat.pow_succ, Nat.mul_comm]
    have h1 : 0 < 2 ^ (k + 1) := Nat.pow_pos (by decide)
    omega
/-- Two results: an array in a cell, and a slot. -/
theorem results_row_tmp {P : Program} {fn : Func} {p q : Tmp} {ty : TypeId} (h : fn.results = #[.cell p ty, .tmp q]) (tmps : Array Value) (w : World) (g : Nat) (t : TypeId) (cs : Array Value) (fr : Nat × Nat) (d : TypeDesc) (u : Value)
    (hp : tmps.getD p undef = .pointer (some ⟨g, 0, none⟩)) (hq : tmps.getD q undef = u) (hg : w.heap[g]? = some (.cells cs t fr))
    (hu : P.underlying ty = some d) (hd : (match d with | .struct _ | .array _ _ => true | _ => false) = true) (hi : (P.info? ty).map (·.size) = some cs.size) :
    (results fn tmps).run P w = .ok (.tuple #[.agg cs, u]) w := by
  have hp' : tmps[p]?.getD undef = .pointer (some ⟨g, 0, none⟩) := by simpa using hp
  have hq' : tmps[q]?.getD undef = u := by simpa using hq
  simp [results, h, hp', hq', asAddr, run_loadVar_row w g t ty cs fr d hg hu hd hi]
theorem setRow_ne {w : World} {g k : Nat} (cs : Array Value) (h : k ≠ g) : (w.setRow g cs).heap[k]? = w.heap[k]? := by
  unfold World.setRow
  rw [Array.getElem?_modify]
  rw [if_neg (by omega)]
/-- A store into a row of zeros leaves texts that begin with other bytes as they are. -/
theorem HoldsB.other {w : World} {M g : Nat} {v : Value} {l : List Int} (h : HoldsB w M v l) (cs : Array Value) (hz : Row w g 42 .u8 (fill 16 [])) (h0 : 0 < l.length) (h1 : l.getD 0 0 ≠ 0) : HoldsB (w.setRow g cs) M v l := by
  obtain ⟨a, cap, e1, e2, e3, e4, e5, e6, e7⟩ := h
  have hs : (w.setRow g cs).heap.size = w.heap.size := by simp [World.setRow]
  have hne : ∀ x, a = some x → x.block ≠ g := by
    intro x hx e
    have hc := e6 x 0 hx h0
    by_cases hlt : x.off + 0 < 16
    · have hr := Row.cell hz (i := x.off + 0) (by rw [fill_len (by simp)]; exact hlt)
      rw [e, hr] at hc
      have : (fill 16 []).getD (x.off + 0) 0 = 0 := by
        unfold fill
        rw [List.getD_eq_getElem?_getD, List.nil_append, List.getElem?_replicate]
        split <;> rfl
      rw [this] at hc
      simp only [Option.some.injEq, Value.int.injEq, true_and] at hc
      exact h1 hc.symm
    · have hr := Blk.cell hz (x.off + 0)
      rw [e, hr, List.getElem?_toArray, List.getElem?_eq_none (by rw [List.length_map, fill_len (by simp)]; omega)] at hc
      cases hc
  refine ⟨a, cap, e1, e2, e3, e4, fun x hx h => by rw [hs]; exact e5 x hx h, fun x i hx hi => ?_, e7⟩
  exact (World.cell?_of_block (w := w) (a := ⟨x.block, x.off + i, none⟩) (setRow_ne cs (hne x hx))).trans (e6 x i hx hi)
theorem HoldsP.other {w : World} {g : Nat} {v : Value} {ts : List (List Int)} (h : HoldsP w v ts) (cs : Array Value) (hz : Row w g 42 .u8 (fill 16 [])) (h1 : ∀ t ∈ ts, 0 < t.length ∧ t.getD 0 0 ≠ 0) : HoldsP (w.setRow g cs) v ts := by
  have hs : (w.setRow g cs).heap.size = w.heap.size := by simp [World.setRow]
  obtain ⟨a, cap, e1, e2, e3⟩ := h
  refine ⟨a, cap, e1, e2, fun i hi => ?_⟩
  obtain ⟨b, off, a1, n1, c1, f1, f2, f3, f4⟩ := e3 i hi
  have hm : ts.getD i [] ∈ ts := by rw [List.getD_eq_getElem?_getD, List.getElem?_eq_getElem hi]; exact List.getElem_mem hi
  have hne : b ≠ g := by
    intro e
    subst e
    have hr := Blk.cell hz (off + i)
    rw [f3, List.getElem?_toArray, List.getElem?_map] at hr
    cases hq : (fill 16 [])[off + i]? with
    | none => rw [hq] at hr; cases hr
    | some q => rw [hq] at hr; simp at hr
  exact ⟨b, off, a1, n1, c1, f1, by rw [hs]; exact f2, (World.cell?_of_block (w := w) (a := ⟨b, off + i, none⟩) (setRow_ne cs hne)).trans f3, by rw [hs]; exact f4.other cs hz (h1 _ hm).1 (h1 _ hm).2⟩
theorem nodeT_first (d e s r : Int) (el : List Int) (k : Nat) : ∀ p, ∀ t ∈ nodeT d e s r el k p, 0 < t.length ∧ t.getD 0 0 ≠ 0 := by
  induction k with
  | zero => intro p t ht; simp [nodeT] at ht; subst ht; exact ⟨by simp [leafT], by simp [leafT]⟩
  | succ k ih =>
    intro p t ht
    simp only [nodeT, List.mem_append, List.mem_singleton] at ht
    rcases ht with (h | h) | h
    · exact ih _ t h
    · exact ih _ t h
    · subst h; exact ⟨by simp [joinT], by simp [joinT]⟩
end Go.Proofs.YtibbinenhmiclaaDoor

namespace Go.Proofs.YtibbinenhmiclaaDoor
open Go.RowKit

theorem texts_one {w : World} {M : Nat} {a : Option Addr} {n c : Nat} {l : List Int} (h : HoldsB w M (.slice a n c) l) :
    TextsAt (w.alloc (.cells #[.slice a n c] 131)) (w.heap.size + 1) M (.slice (some ⟨w.heap.size, 0, none⟩) 1 1) [l] := by
  refine ⟨_, 1, rfl, fun i hi => ?_⟩
  have h0 : i = 0 := by simpa using hi
  subst h0
  exact ⟨w.heap.size, 0, a, n, c, rfl, by omega, by simp, (Blk.new w (.cells #[.slice a n c] 131)).cell 0, h.alloc _⟩
end Go.Proofs.YtibbinenhmiclaaDoor

namespace Go.Proofs.YtibbinenhmiclaaDoor
open Go.RowKit

/-- How many levels a width has. -/
def lev (m : Int) : Int := if m = 1 then 0 else if m = 2 then 1 else if m = 4 then 2 else if m = 8 then 3 else -1
set_option maxRecDepth 100000 in
set_option maxHeartbeats 1000000 in
theorem levels_any (m : Int) (w : World) : Calls Tryd.prog 29 #[.int .i64 m] w fun r w' => r = .returned (.int .i64 (lev m)) ∧ w' = w := by
  go_enter Tryd.func29, Tryd.ntmps29
  unfold lev
  by_cases h1 : m = 1
  · subst h1
    go_wp2_with fail
    go_ret
    exact ⟨rfl, rfl⟩
  by_cases h2 : m = 2
  · subst h2
    go_wp2_with fail
    go_ret
    exact ⟨rfl, rfl⟩
  by_cases h4 : m = 4
  · subst h4
    go_wp2_with fail
    go_ret
    exact ⟨rfl, rfl⟩
  by_cases h8 : m = 8
  · subst h8
    go_wp2_with fail
    go_ret
    exact ⟨rfl, rfl⟩
  have t1 : (m == 1) = false := by rw [beq_eq_false_iff_ne]; exact h1
  have t2 : (m == 2) = false := by rw [beq_eq_false_iff_ne]; exact h2
  have t4 : (m == 4) = false := by rw [beq_eq_false_iff_ne]; exact h4
  have t8 : (m == 8) = false := by rw [beq_eq_false_iff_ne]; exact h8
  rw [if_neg h1, if_neg h2, if_neg h4, if_neg h8]
  go_wp2_with fail
  go_ret
  exact ⟨rfl, rfl⟩
set_option maxRecDepth 100000 in
set_option maxHeartbeats 1000000 in
theorem rlevels_any (m : Int) (w : World) : Calls Tryd.prog 30 #[.int .i64 m] w fun r w' => r = .returned (.int .i64 (lev m)) ∧ w' = w := by
  go_enter Tryd.func30, Tryd.ntmps30
  unfold lev
  by_cases h1 : m = 1
  · subst h1
    go_wp2_with fail
    go_ret
    exact ⟨rfl, rfl⟩
  by_cases h2 : m = 2
  · subst h2
    go_wp2_with fail
    go_ret
    exact ⟨rfl, rfl⟩
  by_cases h4 : m = 4
  · subst h4
    go_wp2_with fail
    go_ret
    exact ⟨rfl, rfl⟩
  by_cases h8 : m = 8
  · subst h8
    go_wp2_with fail
    go_ret
    exact ⟨rfl, rfl⟩
  have t1 : (m == 1) = false := by rw [beq_eq_false_iff_ne]; exact h1
  have t2 : (m == 2) = false := by rw [beq_eq_false_iff_ne]; exact h2
  have t4 : (m == 4) = false := by rw [beq_eq_false_iff_ne]; exact h4
  have t8 : (m == 8) = false := by rw [beq_eq_false_iff_ne]; exact h8
  rw [if_neg h1, if_neg h2, if_neg h4, if_neg h8]
  go_wp2_with fail
  go_ret
  exact ⟨rfl, rfl⟩
theorem lev_range (m : Int) : -1 ≤ lev m ∧ lev m ≤ 3 := by unfold lev; split <;> (try split) <;> (try split) <;> (try split) <;> omega
/-- What a rung costs. -/
def upC (m : Int) : Int := if m < 1 then 0 else if 8 < m then 15 else 2 * m - 1
set_option maxRecDepth 100000 in
set_option maxHeartbeats 1000000 in
theorem upCost_any (m : Int) (w : World) : Calls Tryd.prog 42 #[.int .i64 m] w fun r w' => r = .returned (.int .i64 (upC m)) ∧ w' = w := by
  go_enter Tryd.func42, Tryd.ntmps42
  unfold upC
  by_cases h1 : m < 1
  · rw [if_pos h1]
    go_wp2_with fail
    go_ret
    exact ⟨rfl, rfl⟩
  · rw [if_neg h1]
    have hm : min m 8 = if 8 < m then 8 else m := by split <;> omega
    by_cases h8 : 8 < m
    · rw [if_pos h8] at hm ⊢
      go_wp2_with fail
      go_ret
      exact ⟨by simp, rfl⟩
    · rw [if_neg h8] at hm ⊢
      go_wp2_with fail
      go_ret
      exact ⟨by simp, rfl⟩
set_option maxRecDepth 100000 in
set_option maxHeartbeats 1000000 in
theorem rupCost_any (m : Int) (w : World) : Calls Tryd.prog 40 #[.int .i64 m] w fun r w' => r = .returned (.int .i64 (upC m)) ∧ w' = w := by
  go_enter Tryd.func40, Tryd.ntmps40
  unfold upC
  by_cases h1 : m < 1
  · rw [if_pos h1]
    go_wp2_with fail
    go_ret
    exact ⟨rfl, rfl⟩
  · rw [if_neg h1]
    by_cases h8 : 8 < m
    · rw [if_pos h8]
      go_wp2_with fail
      go_ret
      exact ⟨rfl, rfl⟩
    · rw [if_neg h8]
      go_wp2_with fail
      go_ret
      exact ⟨rfl, rfl⟩
set_option maxRecDepth 100000 in
set_option maxHeartbeats 1000000 in
theorem riseCost_any (m : Int) (w : World) : Calls Tryd.prog 41 #[.int .i64 m] w fun r w' => r = .returned (.int .i64 (max (lev m) 0)) ∧ w' = w := by
  go_enter Tryd.func41, Tryd.ntmps41
  go_wp2_with fail
  refine (levels_any m w).mono ?_
  rintro r w1 ⟨rfl, rfl⟩
  go_wp2_with fail
  all_goals go_ret
  all_goals exact ⟨by first | rfl | (show Ending.returned (.int .i64 _) = _; congr 2; omega), rfl⟩
set_option maxRecDepth 100000 in
set_option maxHeartbeats 1000000 in
theorem rriseCost_any (m : Int) (w : World) : Calls Tryd.prog 39 #[.int .i64 m] w fun r w' => r = .returned (.int .i64 (max (lev m) 0)) ∧ w' = w := by
  go_enter Tryd.func39, Tryd.ntmps39
  go_wp2_with fail
  refine (rlevels_any m w).mono ?_
  rintro r w1 ⟨rfl, rfl⟩
  obtain ⟨l, hl⟩ : ∃ l, l = lev m := ⟨_, rfl⟩
  have HL := Kp.mk hl
  rw [← hl]
  clear hl
  by_cases h0 : l < 0
  · have HM : Kp (max (lev m) 0 = 0) := ⟨by rw [← HL.out]; omega⟩
    go_wp2_with fail
    go_ret
    exact ⟨by rw [HM.out]; rfl, rfl⟩
  · have HM : Kp (max (lev m) 0 = l) := ⟨by rw [← HL.out]; omega⟩
    go_wp2_with fail
    refine (rlevels_any m w1).mono ?_
    rintro r w2 ⟨rfl, rfl⟩
    rw [← HL.out]
    go_wp2_with fail
    go_ret
    exact ⟨by rw [HM.out]; rfl, rfl⟩
end Go.Proofs.YtibbinenhmiclaaDoor

namespace Go.Proofs.YtibbinenhmiclaaDoor
open Go.RowKit

/-- Whether there is such a rung, such a node. -/
def rungB (m : Int) : Bool := decide (0 ≤ m) && decide (m ≤ 15)
def nodeB (i m : Int) : Bool := decide (0 ≤ lev m) && decide (0 ≤ i) && decide (i < m)
set_option maxRecDepth 100000 in
set_option maxHeartbeats 1000000 in
theorem isRung_any (m : Int) (w : World) : Calls Tryd.prog 68 #[.int .i64 m] w fun r w' => r = .returned (.bool (rungB m)) ∧ w' = w := by
  go_enter Tryd.func68, Tryd.ntmps68
  by_cases h1 : 0 ≤ m
  · by_cases h2 : m ≤ 15
    · have HR : Kp (rungB m = true) := ⟨by simp [rungB]; omega⟩
      go_wp2_with fail
      go_ret
      exact ⟨by rw [HR.out]; first | rfl | (simp; omega), rfl⟩
    · have HR : Kp (rungB m = false) := ⟨by simp [rungB]; omega⟩
      go_wp2_with fail
      go_ret
      exact ⟨by rw [HR.out]; first | rfl | (simp; omega), rfl⟩
  · have HR : Kp (rungB m = false) := ⟨by simp [rungB]; omega⟩
    go_wp2_with fail
    go_ret
    exact ⟨by rw [HR.out]; first | rfl | (simp; omega), rfl⟩
set_option maxRecDepth 100000 in
set_option maxHeartbeats 1000000 in
theorem isNode_any (i m : Int) (w : World) : Calls Tryd.prog 70 #[.int .i64 i, .int .i64 m] w fun r w' => r = .returned (.bool (nodeB i m)) ∧ w' = w := by
  go_enter Tryd.func70, Tryd.ntmps70
  go_wp2_with fail
  refine (levels_any m _).mono ?_
  rintro r w1 ⟨rfl, rfl⟩
  by_cases h0 : 0 ≤ lev m
  · by_cases h1 : 0 ≤ i
    · by_cases h2 : i < m
      · have HR : Kp (nodeB i m = true) := ⟨by simp [nodeB]; omega⟩
        generalize lev m = L at h0 ⊢
        go_wp2_with fail
        go_ret
        exact ⟨by rw [HR.out]; first | rfl | (simp; omega), rfl⟩
      · have HR : Kp (nodeB i m = false) := ⟨by simp [nodeB]; omega⟩
        generalize lev m = L at h0 ⊢
        go_wp2_with fail
        go_ret
        exact ⟨by rw [HR.out]; first | rfl | (simp; omega), rfl⟩
    · have HR : Kp (nodeB i m = false) := ⟨by simp [nodeB]; omega⟩
      generalize lev m = L at h0 ⊢
      go_wp2_with fail
      go_ret
      exact ⟨by rw [HR.out]; first | rfl | (simp; omega), rfl⟩
  · have HR : Kp (nodeB i m = false) := ⟨by simp [nodeB]; omega⟩
    generalize lev m = L at h0 ⊢
    go_wp2_with fail
    go_ret
    exact ⟨by rw [HR.out]; first | rfl | (simp; omega), rfl⟩
/-- Whether the document takes such a rung and width. -/
def rightB (m x : Int) : Bool := rungB m && decide (0 ≤ lev x)
end Go.Proofs.YtibbinenhmiclaaDoor

namespace Go.Proofs.YtibbinenhmiclaaDoor
open Go.RowKit

end Go.Proofs.YtibbinenhmiclaaDoor

namespace Go.Proofs.YtibbinenhmiclaaDoor
open Go.RowKit

/-- The row of n short sums behind i rounds. -/
def sumsRow (p : List Int) (n i : Nat) : List Int := p.take (i * 16) ++ List.replicate ((n - i) * 16) 0
theorem sumsRow_len {p : List Int} {n i : Nat} (h : p.length = n * 16) (hi : i ≤ n) : (sumsRow p n i).length = n * 16 := by
  unfold sumsRow
  rw [List.length_append, List.length_take, List.length_replicate, Nat.min_eq_left (by omega), Nat.sub_mul]
  omega
theorem splice_mid {α : Type} (A Z X : List α) (k : Nat) (hk : A.length = k) : splice (A ++ Z) k X = A ++ (X ++ Z.drop X.length) := by
  subst hk
  unfold splice
  rw [List.take_left, List.drop_append, List.drop_eq_nil_of_le (by omega), List.nil_append, show A.length + X.length - A.length = X.length by omega]
theorem sumsRow_step {p : List Int} {n i : Nat} (h : p.length = n * 16) (hi : i < n) : splice (bv (sumsRow p n i)) (i * 16) (bv ((p.drop (i * 16)).take 16)) = bv (sumsRow p n (i + 1)) := by
  have h1 : ((p.drop (i * 16)).take 16).length = 16 := by rw [List.length_take, List.length_drop]; omega
  unfold sumsRow bv
  rw [List.map_append, splice_mid _ _ _ (i * 16) (by rw [List.length_map, List.length_take]; omega), List.length_map, h1, ← List.map_drop, List.drop_replicate, ← List.map_append, ← List.map_append, ← List.append_assoc,
    show (n - i) * 16 - 16 = (n - (i + 1)) * 16 by rw [Nat.sub_mul, Nat.sub_mul]; omega, show (i + 1) * 16 = i * 16 + 16 by omega, List.take_add]
theorem sumsRow_all {p : List Int} {n : Nat} (h : p.length = n * 16) : sumsRow p n n = p := by
  unfold sumsRow
  rw [Nat.sub_self, Nat.zero_mul, List.replicate_zero, List.append_nil, List.take_of_length_le (by omega)]
theorem sumsRow_none {p : List Int} {n : Nat} : sumsRow p n 0 = List.replicate (n * 16) 0 := by
  simp [sumsRow]
theorem made16 (n : Nat) : madeCells #[.int .u8 0, .int .u8 0, .int .u8 0, .int .u8 0, .int .u8 0, .int .u8 0, .int .u8 0, .int .u8 0, .int .u8 0, .int .u8 0, .int .u8 0, .int .u8 0, .int .u8 0, .int .u8 0, .int .u8 0, .int .u8 0] n = (bv (List.replicate n 0)).toArray := by
  apply Array.ext_getElem?
  intro j
  by_cases hj : j < n
  · have h16 : j % 16 < 16 := Nat.mod_lt _ (by decide)
    have : ∀ k, k < 16 → (#[Value.int .u8 0, .int .u8 0, .int .u8 0, .int .u8 0, .int .u8 0, .int .u8 0, .int .u8 0, .int .u8 0, .int .u8 0, .int .u8 0, .int .u8 0, .int .u8 0, .int .u8 0, .int .u8 0, .int .u8 0, .int .u8 0] : Array Value)[k]! = .int .u8 0 := by
      intro k hk
      have hk' : k = 0 ∨ k = 1 ∨ k = 2 ∨ k = 3 ∨ k = 4 ∨ k = 5 ∨ k = 6 ∨ k = 7 ∨ k = 8 ∨ k = 9 ∨ k = 10 ∨ k = 11 ∨ k = 12 ∨ k = 13 ∨ k = 14 ∨ k = 15 := by omega
      rcases hk' with rfl | rfl | rfl | rfl | rfl | rfl | rfl | rfl | rfl | rfl | rfl | rfl | rfl | rfl | rfl | rfl <;> rfl
    have hh := this (j % 16) h16
    simp [madeCells, hj]
    simpa using hh
  · simp [madeCells, hj]
theorem info33m : (Tryd.prog.info? 43).map (fun i => (i.zero, i.size, i.bytes)) = some (some (.agg #[.int .u8 0, .int .u8 0, .int .u8 0, .int .u8 0, .int .u8 0, .int .u8 0, .int .u8 0, .int .u8 0, .int .u8 0, .int .u8 0, .int .u8 0, .int .u8 0, .int .u8 0, .int .u8 0, .int .u8 0, .int .u8 0]), 16, 16) := by kernel_rfl
/-- A row of n sums. -/
theorem make66 (n : Nat) (hn : n ≤ 65535) (w : World) : (Instr.makeSlice 50 (.int .i64 n) (.int .i64 n)).run Tryd.prog w = .ok (.slice (some ⟨w.heap.size, 0, none⟩) n n) (w.alloc (.cells (bv (List.replicate (n * 16) 0)).toArray 43)) := by
  obtain ⟨i0, hi, hz0, hz1, hz2⟩ := info_parts info33m
  have h := run_make (P := Tryd.prog) w 50 43 i0 _ Tryd.underlying50 hi hz0 .i64 .i64 n n (by omega) (Int.le_refl _) (by rw [hz2]; omega) (by omega)
  rw [h, ← made16, hz1]
  simp [Value.cells, Int.toNat_natCast]
/-- A row of cells into the middle of a row. -/
theorem Row.setCells {b : Nat} {t : TypeId} {k : IntKind} : ∀ (z : List Int) (o : Nat) (w : World) (l : List Int), o + z.length ≤ l.length → Row w b t k l → Row (w.setCells b o (kv k z)) b t k (splice l o z)
  | [], o, w, l, _, h => by
    have e : splice l o [] = l := by simp [splice]
    rw [e]
    exact h
  | x :: r, o, w, l, hl, h => by
    have h1 := Row.setCells (b := b) (t := t) (k := k) r (o + 1) _ (l.set o x) (by simp at hl ⊢; omega) (h.set o x)
    have e : splice (l.set o x) (o + 1) r = splice l o (x :: r) := by
      simp at hl
      unfold splice
      have e1 : (l.set o x).take (o + 1) = l.take o ++ [x] := by
        rw [List.take_add_one, List.take_set_of_le (Nat.le_refl o)]
        simp [List.getElem?_set_self (show o < l.length by omega)]
      have e2 : (l.set o x).drop (o + 1 + r.length) = l.drop (o + 1 + r.length) := List.drop_set_of_lt (by omega)
      rw [e1, e2, List.append_assoc, List.singleton_append, List.cons_append, List.length_cons, show o + 1 + r.length = o + (r.length + 1) by omega]
    rw [e] at h1
    exact h1
theorem Below.cells {B b : Nat} (hB : B ≤ b) : ∀ (vs : List Value) (o : Nat) (a w : World), Below B a w → Below B a (w.setCells b o vs)
  | [], _, _, _, h => h
  | v :: r, o, _, _w, h => Below.cells hB r (o + 1) _ _ (h.setCell (p := ⟨b, o, none⟩) hB v)
theorem Row.there {w : World} {b : Nat} {t : TypeId} {k : IntKind} {l : List Int} (h : Row w b t k l) {o n : Nat} (hl : o + n ≤ l.length) : w.there b o n := fun j hj =>
  ⟨by rw [h.cell (i := o + j) (by omega)]; rfl, h.frozen (o + j)⟩
theorem Row.otherCells {b g : Nat} {t : TypeId} {k : IntKind} {l : List Int} (hne : g ≠ b) : ∀ (vs : List Value) (o : Nat) (w : World), Row w b t k l → Row (w.setCells g o vs) b t k l
  | [], _, _, h => h
  | v :: r, o, _, h => Row.otherCells hne r (o + 1) _ (h.other (p := ⟨g, o, none⟩) hne v)
theorem Blk.otherCells {b g : Nat} {x : Obj} (hne : g ≠ b) : ∀ (vs : List Value) (o : Nat) (w : World), Blk w b x → Blk (w.setCells g o vs) b x
  | [], _, _, h => h
  | v :: r, o, _, h => Blk.otherCells hne r (o + 1) _ (h.setOther (p := ⟨g, o, none⟩) hne v)
/-- The middle of a row. -/
theorem Row.mid {w : World} {b : Nat} {t : TypeId} {k : IntKind} {l : List Int} (h : Row w b t k l) {o n : Nat} (hl : o + n ≤ l.length) : w.rangeAt b o (kv k ((l.drop o).take n)) := by
  intro j v hv
  have hj : j < n := by
    have h1 := (List.getElem?_eq_some_iff.1 hv).1
    simp at h1
    omega
  rw [h.cell (i := o + j) (by omega)]
  rw [List.getElem?_map, List.getElem?_take, if_pos hj, List.getElem?_drop, List.getElem?_eq_getElem (by omega)] at hv
  simp at hv
  rw [List.getD_eq_getElem?_getD, List.getElem?_eq_getElem (by omega)]
  simpa using hv
end Go.Proofs.YtibbinenhmiclaaDoor

namespace Go.Proofs.YtibbinenhmiclaaDoor
open Go.RowKit

/-- Rows of sixteen, one behind the other. -/
def rowsL (f : Nat → List Int) : Nat → List Int
  | 0 => []
  | n + 1 => rowsL f n ++ f n
theorem rowsL_len {f : Nat → List Int} (h : ∀ i, (f i).length = 16) : ∀ n, (rowsL f n).length = n * 16
  | 0 => rfl
  | n + 1 => by rw [rowsL, List.length_append, rowsL_len h n, h]; omega
theorem rowsL_mid {f : Nat → List Int} (h : ∀ i, (f i).length = 16) : ∀ (n i : Nat), i < n → ((rowsL f n).drop (i * 16)).take 16 = f i
  | 0, _, hi => absurd hi (by omega)
  | n + 1, i, hi => by
    rw [rowsL]
    by_cases hn : i = n
    · subst hn
      rw [List.drop_append, List.drop_eq_nil_of_le (by rw [rowsL_len h]; omega), List.nil_append, rowsL_len h, Nat.sub_self, List.drop_zero, List.take_of_length_le (by rw [h]; omega)]
    · rw [List.drop_append_of_le_length (by rw [rowsL_len h]; omega), List.take_append_of_le_length (by rw [List.length_drop, rowsL_len h]; omega)]
      exact rowsL_mid h n i (by omega)
theorem sumsRow_put {p : List Int} {n i : Nat} (h : p.length = n * 16) (hi : i < n) : splice (sumsRow p n i) (i * 16) ((p.drop (i * 16)).take 16) = sumsRow p n (i + 1) := by
  have h1 : ((p.drop (i * 16)).take 16).length = 16 := by rw [List.length_take, List.length_drop]; omega
  unfold sumsRow
  rw [splice_mid _ _ _ (i * 16) (by rw [List.length_take]; omega), h1, List.drop_replicate, ← List.append_assoc,
    show (n - i) * 16 - 16 = (n - (i + 1)) * 16 by rw [Nat.sub_mul, Nat.sub_mul]; omega, show (i + 1) * 16 = i * 16 + 16 by omega, List.take_add]
set_option maxRecDepth 100000 in
set_option maxHeartbeats 1000000 in
theorem tree_one (d e s r : Int) (x : List Int) (n : Nat) (w : World) (hk : KonIs w) (he : 0 ≤ e ∧ e < 4294967296) (hs : 0 ≤ s ∧ s < 4294967296) (hx : x.length = 16) (hxb : Bytes x) (hn : n = 1) :
    Calls Tryd.prog 71 #[plV d e s, .int .i64 r, dgV x, .int .i64 n] w fun q w' => ∃ R B, q = .returned (.slice (some ⟨R, 0, none⟩) 1 1) ∧ Blk w' R (.cells #[.slice (some ⟨B, 0, none⟩) 1 1] 50) ∧ Row w' B 43 .u8 (shortL (leafT d e s r x 0)) ∧ Below w.heap.size w w' := by
  have HN := Kp.mk hn
  have h8 : n ≤ 8 := by omega
  clear hn
  have HK := Kp.mk hk
  have HE := Kp.mk he
  have HS := Kp.mk hs
  have HX := Kp.mk hx
  have HXB := Kp.mk hxb
  have HC := Kp.mk (cells50 hx)
  have hm := make66 n (by omega)
  clear hk he hs hx hxb
  go_enter Tryd.func71, Tryd.ntmps71
  go_wp2_with fail
  obtain ⟨A, hA⟩ : ∃ A, A = w.heap.size := ⟨_, rfl⟩
  have HA := Kp.mk hA
  rw [← hA]
  refine wp_world (fun W => Blk W A (.cells #[.int .i64 d, .int .u32 e, .int .u32 s] 118) ∧ Row W (A + 1) 43 .u8 x ∧ Row W (A + 1 + 1) 43 .u8 (List.replicate (n * 16) 0) ∧ Below A w W) ⟨?_, ?_, ?_, ?_⟩ ?_
  · exact Blk.old (Blk.old (Blk.newAt _ hA) _) _
  · exact Blk.old (Blk.newAt _ (by simp [hA])) _
  · have h := Blk.newAt (w := (w.alloc (.cells #[.int .i64 d, .int .u32 e, .int .u32 s] 118)).alloc (.cells (kv .u8 x).toArray 43)) (b := A + 1 + 1) (.cells (kv .u8 (List.replicate (n * 16) 0)).toArray 43) (by rw [hA]; simp)
    simpa [Row] using h
  · rw [hA]; exact more (more (more (Below.refl _ _) _) _) _
  clear hA hm
  rintro W ⟨g1, g2, g3, g4⟩
  have G1 := Kp.mk g1
  have G2 := Kp.mk g2
  have G3 := Kp.mk g3
  have G4 := Kp.mk g4
  clear g1 g2 g3 g4
  obtain ⟨p, hp⟩ : ∃ p, p = rowsL (fun i => shortL (leafT d e s r x i)) n := ⟨_, rfl⟩
  have HL : Kp (p.length = n * 16 ∧ ∀ i, i < n → (p.drop (i * 16)).take 16 = shortL (leafT d e s r x i)) := ⟨by rw [hp]; exact ⟨rowsL_len (fun i => shortL_len _) n, fun i hi => rowsL_mid (fun i => shortL_len _) n i hi⟩⟩
  have HP := Kp.mk hp
  clear hp
  go_loopw [15] (fun c wr => ∃ i : Nat, i ≤ n ∧ c = .int .i64 i ∧ Blk wr A (.cells #[.int .i64 d, .int .u32 e, .int .u32 s] 118) ∧ Row wr (A + 1) 43 .u8 x ∧ Row wr (A + 1 + 1) 43 .u8 (sumsRow p n i) ∧ Below A w wr) (fun c _ => n - (intOf c).toNat)
  case atStart => exact ⟨0, by omega, rfl, G1.out, G2.out, G3.out.as sumsRow_none.symm, G4.out⟩
  case round =>
    obtain ⟨i, hi, rfl, g1, g2, g3, g4⟩ := hrel
    clear G1 G2 G3 G4
    have G1 := Kp.mk g1
    have G2 := Kp.mk g2
    have G3 := Kp.mk g3
    have G4 := Kp.mk g4
    clear g1 g2 g3 g4
    by_cases hlt : i < n
    · go_wp2_with first
        | (refine wpList_load_row rfl 118 (.tmp 4) rfl A rfl 118 _ (0, 0) _ G1.out Tryd.underlying118 rfl (cells51 d e s) ?_)
        | (refine wpList_load_row rfl 43 (.tmp 6) rfl (A + 1) rfl 43 _ (0, 0) _ G2.out Tryd.underlying43 rfl HC.out ?_)
      refine (leaf_any d e s r x i wr (HK.out.keep (by rw [← HA.out]; exact G4.out)) HE.out HS.out HX.out HXB.out).mono ?_
      rintro q w1 ⟨rfl, hb⟩
      have F1 := Kp.mk (G1.out.keep hb)
      have F2 := Kp.mk (G2.out.keep hb)
      have F3 := Kp.mk (G3.out.keep hb)
      have F4 : Kp (Below A w w1) := ⟨G4.out.trans (hb.mono (Nat.le_of_lt G1.out.lt))⟩
      clear hb G1 G2 G3 G4
      obtain ⟨z, hz⟩ : ∃ z, z = shortL (leafT d e s r x i) := ⟨_, rfl⟩
      have HZ : Kp (z.length = 16 ∧ (p.drop (i * 16)).take 16 = z) := ⟨by rw [hz]; exact ⟨shortL_len _, HL.out.2 i hlt⟩⟩
      rw [← hz]
      clear hz
      go_wp2_with (refine wpList_store_mid rfl 43 (.tmp 25) (.tmp 24) rfl (A + 1 + 1) (i * 16) (kv .u8 z).toArray ?a0 rfl ?a1 ?a2 ?a3 ?_)
      case a0 => first | rfl | (go_simp; rfl)
      case a1 =>
        have h := F3.out.there (o := i * 16) (n := 16) (by rw [sumsRow_len HL.out.1 (by omega)]; omega)
        rw [kv_size, HZ.out.1]
        exact h
      case a2 => exact cells50 HZ.out.1
      case a3 => exact kv_all _ _
      have HR3 : Kp (Row (w1.setCells (A + 1 + 1) (i * 16) (kv .u8 z)) (A + 1 + 1) 43 .u8 (sumsRow p n (i + 1))) := ⟨by
        have h := Row.setCells z (i * 16) w1 _ (by rw [sumsRow_len HL.out.1 (by omega), HZ.out.1]; omega) F3.out
        have e := sumsRow_put HL.out.1 hlt
        rw [HZ.out.2] at e
        rw [e] at h
        exact h⟩
      exact ⟨⟨i + 1, by omega, by go_num, Blk.otherCells (by omega) _ _ _ F1.out, Row.otherCells (by omega) _ _ _ F2.out, HR3.out, Below.cells (by omega) _ _ _ _ F4.out⟩, by simp [intOf]; omega⟩
    · have hi' : i = 1 := by have := HN.out; omega
      have HN1 := HN.out
      subst hi' HN1
      have HP1 : Kp (sumsRow p 1 1 = shortL (leafT d e s r x 0)) := ⟨by rw [sumsRow_all HL.out.1, HP.out]; rfl⟩
      rw [HP1.out] at G3
      clear HL HP HP1 hlt hi h8 HN
      go_wp2_with fail
      refine (levels_any 1 _).mono ?_
      rintro q w1 ⟨rfl, rfl⟩
      rw [show lev 1 = 0 from rfl]
      go_wp2_with fail
      obtain ⟨R, hR⟩ : ∃ R, R = wr.heap.size := ⟨_, rfl⟩
      rw [← hR]
      refine wp_world (fun W => Blk W R (.cells #[.slice (some ⟨A + 1 + 1, 0, none⟩) 1 1] 50) ∧ Row W (A + 1 + 1) 43 .u8 (shortL (leafT d e s r x 0)) ∧ Below A w W) ⟨Blk.newAt _ hR, Blk.old G3.out _, G4.out.alloc (Nat.le_of_lt G1.out.lt) _⟩ ?_
      rintro W2 ⟨g1, g2, g3⟩
      have F1 := Kp.mk g1
      have F2 := Kp.mk g2
      have F3 := Kp.mk g3
      clear g1 g2 g3 hR G1 G2 G3 G4
      go_wp2_with fail
      go_loopw [11, 31] (fun t c wr => t = .slice (some ⟨R, 0, none⟩) 1 1 ∧ c = .int .i64 0 ∧ Kp (Blk wr R (.cells #[.slice (some ⟨A + 1 + 1, 0, none⟩) 1 1] 50)) ∧ Kp (Row wr (A + 1 + 1) 43 .u8 (shortL (leafT d e s r x 0))) ∧ Kp (Below A w wr)) (fun _ _ _ => 0)
      case atStart => exact ⟨rfl, rfl, F1, F2, F3⟩
      case round =>
        obtain ⟨rfl, rfl, E1, E2, E3⟩ := hrel
        clear F1 F2 F3
        go_wp2_with fail
        go_ret
        exact ⟨R, A + 1 + 1, rfl, E1.out, E2.out, by rw [← HA.out]; exact E3.out⟩
end Go.Proofs.YtibbinenhmiclaaDoor

namespace Go.Proofs.YtibbinenhmiclaaDoor
open Go.RowKit

/-- The j-th sum of a row of sums. -/
def segL (p : List Int) (j : Nat) : List Int := (p.drop (j * 16)).take 16
theorem segL_len {p : List Int} {n j : Nat} (h : p.length = n * 16) (hj : j < n) : (segL p j).length = 16 := by
  unfold segL
  rw [List.length_take, List.length_drop]
  omega
theorem Bytes.seg {p : List Int} (h : Bytes p) (j : Nat) : Bytes (segL p j) := (h.drop _).take _
theorem rowsL_bytes {f : Nat → List Int} (h : ∀ i, Bytes (f i)) : ∀ n, Bytes (rowsL f n)
  | 0 => Bytes.nil
  | n + 1 => (rowsL_bytes h n).append (h n)
theorem info33L : (Tryd.prog.info? 43).map (·.size) = some 16 := by kernel_rfl
set_option maxRecDepth 100000 in
theorem exec_load_at33 {o : Oper} {a : Act} {w : World} {x : Operand} {b c : Nat} {s : List Int} (ho : o.op = .load 43 x) (hx : a.eval x = .pointer (some ⟨b, c, none⟩)) (hc : w.rangeAt b c (kv .u8 s)) (hs : s.length = 16) :
    (execOp a.eval o).run Tryd.prog w = .ok (.value (dgV s)) w := by
  unfold execOp
  simp only [ho, hx, Instr.loadAt, Instr.sureAddr, Sem.run_bind, Sem.run_pure, Result.andThen_ok, run_loadVar_mid w b c 43 (kv .u8 s) _ hc Tryd.underlying43 rfl (by rw [info33L, List.length_map, hs])]
theorem idx66 (B n cap j : Nat) (hj : j < n) (w : World) : (Instr.indexAt 50 (.slice (some ⟨B, 0, none⟩) n cap) (.int .i64 j)).run Tryd.prog w = .ok (.pointer (some ⟨B, j * 16, none⟩)) w := by
  go_simp
theorem exec_idx66 {o : Oper} {a : Act} {w : World} {x y : Operand} {B n cap j : Nat} {q : Int} (ho : o.op = .indexAddr 50 x y) (hx : a.eval x = .slice (some ⟨B, 0, none⟩) n cap) (hy : a.eval y = .int .i64 q) (hq : q = (j : Nat)) (hj : j < n) :
    (execOp a.eval o).run Tryd.prog w = .ok (.value (.pointer (some ⟨B, j * 16, none⟩))) w := by
  unfold execOp
  subst hq
  simp only [ho, hx, hy, Sem.run_bind, idx66 B n cap j hj w, Result.andThen_ok, Sem.run_pure]
/-- The row above a row. -/
def upL (d e s r : Int) (p : List Int) (m : Nat) : List Int := rowsL (fun i => shortL (joinT d e s r (segL p (2 * i)) (segL p (2 * i + 1)))) m
set_option maxRecDepth 100000 in
set_option maxHeartbeats 2000000 in
theorem rowUp_any (d e s r : Int) (p : List Int) (n m B cap : Nat) (w : World) (hk : KonIs w) (he : 0 ≤ e ∧ e < 4294967296) (hs : 0 ≤ s ∧ s < 4294967296) (hp : p.length = n * 16) (hb : Bytes p) (hn : n = 2 * m) (hm : m ≤ 4) (hr : Row w B 43 .u8 p) :
    Calls Tryd.prog 80 #[plV d e s, .int .i64 r, .slice (some ⟨B, 0, none⟩) n cap] w fun q w' => ∃ C, q = .returned (.slice (some ⟨C, 0, none⟩) m m) ∧ Row w' C 43 .u8 (upL d e s r p m) ∧ w.heap.size ≤ C ∧ Below w.heap.size w w' := by
  have HK := Kp.mk hk
  have HE := Kp.mk he
  have HS := Kp.mk hs
  have HP := Kp.mk hp
  have HB := Kp.mk hb
  have HR := Kp.mk hr
  have hmk := make66 m (by omega)
  clear hk he hs hp hb hr
  go_enter Tryd.func80, Tryd.ntmps80
  go_wp2_with fail
  obtain ⟨A, hA⟩ : ∃ A, A = w.heap.size := ⟨_, rfl⟩
  have HA := Kp.mk hA
  have HBA : Kp (B < A) := ⟨by rw [hA]; exact HR.out.lt⟩
  have hBA := HBA.out
  rw [← hA]
  refine wp_world (fun W => Blk W A (.cells #[.int .i64 d, .int .u32 e, .int .u32 s] 118) ∧ Row W B 43 .u8 p ∧ Row W (A + 1) 43 .u8 (List.replicate (m * 16) 0) ∧ Below A w W) ⟨?_, ?_, ?_, ?_⟩ ?_
  · exact Blk.old (Blk.newAt _ hA) _
  · exact Blk.old (Blk.old HR.out _) _
  · have h := Blk.newAt (w := w.alloc (.cells #[.int .i64 d, .int .u32 e, .int .u32 s] 118)) (b := A + 1) (.cells (kv .u8 (List.replicate (m * 16) 0)).toArray 43) (by rw [hA]; simp)
    simpa [Row] using h
  · rw [hA]; exact more (more (Below.refl _ _) _) _
  have HN := Kp.mk hn
  clear hA hmk hn
  rintro W ⟨g1, g2, g3, g4⟩
  have G1 := Kp.mk g1
  have G2 := Kp.mk g2
  have G3 := Kp.mk g3
  have G4 := Kp.mk g4
  clear g1 g2 g3 g4 HR
  obtain ⟨q, hq⟩ : ∃ q, q = upL d e s r p m := ⟨_, rfl⟩
  have HL : Kp (q.length = m * 16 ∧ ∀ i, i < m → (q.drop (i * 16)).take 16 = shortL (joinT d e s r (segL p (2 * i)) (segL p (2 * i + 1)))) := ⟨by rw [hq]; exact ⟨rowsL_len (fun i => shortL_len _) m, fun i hi => rowsL_mid (fun i => shortL_len _) m i hi⟩⟩
  have HQ9 := Kp.mk hq
  clear hq
  go_wp2_with fail
  go_loopw [15] (fun c wr => ∃ i : Nat, i ≤ m ∧ c = .int .i64 i ∧ Blk wr A (.cells #[.int .i64 d, .int .u32 e, .int .u32 s] 118) ∧ Row wr B 43 .u8 p ∧ Row wr (A + 1) 43 .u8 (sumsRow q m i) ∧ Below A w wr) (fun c _ => m - (intOf c).toNat)
  case atStart => exact ⟨0, by omega, rfl, G1.out, G2.out, G3.out.as sumsRow_none.symm, G4.out⟩
  case round =>
    obtain ⟨i, hi, rfl, g1, g2, g3, g4⟩ := hrel
    clear G1 G2 G3 G4
    have G1 := Kp.mk g1
    have G2 := Kp.mk g2
    have G3 := Kp.mk g3
    have G4 := Kp.mk g4
    clear g1 g2 g3 g4
    by_cases hlt : i < m
    · have hi2 : 2 * i + 1 < n := by have := HN.out; omega
      obtain ⟨z, hz⟩ : ∃ z, z = shortL (joinT d e s r (segL p (2 * i)) (segL p (2 * i + 1))) := ⟨_, rfl⟩
      have HZ : Kp (z.length = 16 ∧ (q.drop (i * 16)).take 16 = z ∧ z = shortL (joinT d e s r (segL p (2 * i)) (segL p (2 * i + 1)))) := ⟨by rw [hz]; exact ⟨shortL_len _, HL.out.2 i hlt, rfl⟩⟩
      clear hz
      go_wp2_with fail
      refine wp_region_pred (fun w' => Blk w' A (.cells #[.int .i64 d, .int .u32 e, .int .u32 s] 118) ∧ Row w' B 43 .u8 p ∧ Row w' (A + 1) 43 .u8 (sumsRow q m i) ∧ Below A w w') [0, 1, 2, 3, 4, 5, 6, 7, 8, 9, 10, 11, 12, 13, 14, 15, 16] [17]
        (fun ι w' v => match ι with
          | 0 => v = .slice (some ⟨A + 1, 0, none⟩) m m
          | 1 | 5 | 10 => v = .int .i64 i
          | 2 => v = plV d e s
          | 3 => v = .int .i64 r
          | 4 | 9 => v = .slice (some ⟨B, 0, none⟩) n cap
          | 6 | 11 => v = .int .i64 (2 * (i : Int))
          | 7 => v = .pointer (some ⟨B, 2 * i * 16, none⟩)
          | 8 => v = dgV (segL p (2 * i))
          | 12 => v = .int .i64 (2 * (i : Int) + 1)
          | 13 => v = .pointer (some ⟨B, (2 * i + 1) * 16, none⟩)
          | 14 => v = dgV (segL p (2 * i + 1))
          | 15 => v = dgV z
          | 16 => v = .pointer (some ⟨A + 1, i * 16, none⟩)
          | _ => v = .bool true)
        [[], [], [], [], [], [], [(5, some 23)], [(4, some 22), (6, some 24)], [(7, some 25)], [], [], [(10, some 28)], [(11, some 29)], [(9, some 27), (12, some 30)], [(13, some 31)], [(2, some 20), (3, some 21), (8, some 26), (14, some 32)], [(0, some 18), (1, some 19), (2, some 20), (3, some 21), (4, some 22), (5, some 23), (6, some 24), (7, some 25), (8, some 26), (9, some 27), (10, some 28), (11, some 29), (12, some 30), (13, some 31), (14, some 32), (15, some 33)]]
        [(0, some 18), (1, some 19), (2, some 20), (3, some 21), (4, some 22), (5, some 23), (6, some 24), (7, some 25), (8, some 26), (9, some 27), (10, some 28), (11, some 29), (12, some 30), (13, some 31), (14, some 32), (15, some 33), (16, some 34)]
        (by kernel_rfl) (by kernel_rfl) (by kernel_rfl) (by kernel_rfl) (by kernel_rfl) (by kernel_rfl) (by decide) (by decide) (fun w1 w2 h hb => ⟨h.1.keep hb, h.2.1.keep hb, h.2.2.1.keep hb, h.2.2.2.trans (hb.mono (Nat.le_of_lt h.1.lt))⟩) ?_ ⟨G1.out.draw, G2.out.drew, G3.out.drew, G4.out.drew⟩ ?_ ?_
      · intro ι w1 w2 v h hb
        match ι, h with
        | 0, h => exact h
        | 1, h => exact h
        | 2, h => exact h
        | 3, h => exact h
        | 4, h => exact h
        | 5, h => exact h
        | 6, h => exact h
        | 7, h => exact h
        | 8, h => exact h
        | 9, h => exact h
        | 10, h => exact h
        | 11, h => exact h
        | 12, h => exact h
        | 13, h => exact h
        | 14, h => exact h
        | 15, h => exact h
        | 16, h => exact h
        | _ + 17, h => exact h
      · refine ⟨fun γ wx hS h => ?_, fun γ wx hS h => ?_, fun γ wx hS h => ?_, fun γ wx hS h => ?_, fun γ wx hS h => ?_, fun γ wx hS h => ?_, fun γ wx hS h => ?_, fun γ wx hS h => ?_, fun γ wx hS h => ?_, fun γ wx hS h => ?_, fun γ wx hS h => ?_, fun γ wx hS h => ?_, fun γ wx hS h => ?_, fun γ wx hS h => ?_, fun γ wx hS h => ?_, fun γ wx hS h => ?_, fun γ wx hS h => ?_, trivial⟩
        · refine ⟨_, rfl, Or.inl ⟨rfl, predRun_value (v := .slice (some ⟨A + 1, 0, none⟩) m m) (by simp only [putE]; first | rfl | (go_simp; done) | (go_simp; with_reducible rfl) | (go_simp; rfl)) rfl⟩⟩
        · refine ⟨_, rfl, Or.inl ⟨rfl, predRun_value (v := .int .i64 i) (by simp only [putE]; first | rfl | (go_simp; done) | (go_simp; with_reducible rfl) | (go_simp; rfl)) rfl⟩⟩
        · refine ⟨_, rfl, Or.inl ⟨rfl, predRun_value (exec_load_blk 118 (.tmp 3) rfl (A) rfl 118 _ (0, 0) _ hS.1 Tryd.underlying118 rfl (cells51 d e s)) rfl⟩⟩
        · refine ⟨_, rfl, Or.inl ⟨rfl, predRun_value (v := .int .i64 r) (by simp only [putE]; first | rfl | (go_simp; done) | (go_simp; with_reducible rfl) | (go_simp; rfl)) rfl⟩⟩
        · refine ⟨_, rfl, Or.inl ⟨rfl, predRun_value (v := .slice (some ⟨B, 0, none⟩) n cap) (by simp only [putE]; first | rfl | (go_simp; done) | (go_simp; with_reducible rfl) | (go_simp; rfl)) rfl⟩⟩
        · refine ⟨_, rfl, Or.inl ⟨rfl, predRun_value (v := .int .i64 i) (by simp only [putE]; first | rfl | (go_simp; done) | (go_simp; with_reducible rfl) | (go_simp; rfl)) rfl⟩⟩
        · have h5 := h
          have e5 : γ 5 = .int .i64 i := h5
          refine ⟨_, rfl, Or.inl ⟨rfl, predRun_value (v := .int .i64 (2 * (i : Int))) (by simp only [putE, e5]; have e1 : IntKind.i64.wrap (2 * (i : Int)) = 2 * (i : Int) := IntWalk.i64_in _ (by omega); first | rfl | (go_simp; done) | (go_simp; with_reducible rfl) | (go_simp; rfl)) rfl⟩⟩
        · obtain ⟨h4, h6⟩ := h
          have e4 : γ 4 = .slice (some ⟨B, 0, none⟩) n cap := h4
          have e6 : γ 6 = .int .i64 (2 * (i : Int)) := h6
          refine ⟨_, rfl, Or.inl ⟨rfl, predRun_value (exec_idx66 (x := .tmp 22) (y := .tmp 24) (B := B) (n := n) (cap := cap) (j := 2 * i) rfl (by simp only [putE, e4, e6, Act.put, List.setIfInBounds_toArray, List.set_cons_zero, List.set_cons_succ]; rfl) (by simp only [putE, e4, e6, Act.put, List.setIfInBounds_toArray, List.set_cons_zero, List.set_cons_succ]; rfl) (by omega) (by omega)) rfl⟩⟩
        · have h7 := h
          have e7 : γ 7 = .pointer (some ⟨B, 2 * i * 16, none⟩) := h7
          refine ⟨_, rfl, Or.inl ⟨rfl, predRun_value (exec_load_at33 (x := .tmp 25) rfl (by simp only [putE, e7, Act.put, List.setIfInBounds_toArray, List.set_cons_zero, List.set_cons_succ]; rfl) (hS.2.1.mid (o := (2 * i) * 16) (n := 16) (by have := HP.out; omega)) (segL_len HP.out (by omega))) rfl⟩⟩
        · refine ⟨_, rfl, Or.inl ⟨rfl, predRun_value (v := .slice (some ⟨B, 0, none⟩) n cap) (by simp only [putE]; first | rfl | (go_simp; done) | (go_simp; with_reducible rfl) | (go_simp; rfl)) rfl⟩⟩
        · refine ⟨_, rfl, Or.inl ⟨rfl, predRun_value (v := .int .i64 i) (by simp only [putE]; first | rfl | (go_simp; done) | (go_simp; with_reducible rfl) | (go_simp; rfl)) rfl⟩⟩
        · have h10 := h
          have e10 : γ 10 = .int .i64 i := h10
          refine ⟨_, rfl, Or.inl ⟨rfl, predRun_value (v := .int .i64 (2 * (i : Int))) (by simp only [putE, e10]; have e1 : IntKind.i64.wrap (2 * (i : Int)) = 2 * (i : Int) := IntWalk.i64_in _ (by omega); first | rfl | (go_simp; done) | (go_simp; with_reducible rfl) | (go_simp; rfl)) rfl⟩⟩
        · have h11 := h
          have e11 : γ 11 = .int .i64 (2 * (i : Int)) := h11
          refine ⟨_, rfl, Or.inl ⟨rfl, predRun_value (v := .int .i64 (2 * (i : Int) + 1)) (by simp only [putE, e11]; have e1 : IntKind.i64.wrap (2 * (i : Int) + 1) = 2 * (i : Int) + 1 := IntWalk.i64_in _ (by omega); first | rfl | (go_simp; done) | (go_simp; with_reducible rfl) | (go_simp; rfl)) rfl⟩⟩
        · obtain ⟨h9, h12⟩ := h
          have e9 : γ 9 = .slice (some ⟨B, 0, none⟩) n cap := h9
          have e12 : γ 12 = .int .i64 (2 * (i : Int) + 1) := h12
          refine ⟨_, rfl, Or.inl ⟨rfl, predRun_value (exec_idx66 (x := .tmp 27) (y := .tmp 30) (B := B) (n := n) (cap := cap) (j := 2 * i + 1) rfl (by simp only [putE, e9, e12, Act.put, List.setIfInBounds_toArray, List.set_cons_zero, List.set_cons_succ]; rfl) (by simp only [putE, e9, e12, Act.put, List.setIfInBounds_toArray, List.set_cons_zero, List.set_cons_succ]; rfl) (by omega) (by omega)) rfl⟩⟩
        · have h13 := h
          have e13 : γ 13 = .pointer (some ⟨B, (2 * i + 1) * 16, none⟩) := h13
          refine ⟨_, rfl, Or.inl ⟨rfl, predRun_value (exec_load_at33 (x := .tmp 31) rfl (by simp only [putE, e13, Act.put, List.setIfInBounds_toArray, List.set_cons_zero, List.set_cons_succ]; rfl) (hS.2.1.mid (o := (2 * i + 1) * 16) (n := 16) (by have := HP.out; omega)) (segL_len HP.out (by omega))) rfl⟩⟩
        · obtain ⟨h2, h3, h8, h14⟩ := h
          have e2 : γ 2 = plV d e s := h2
          have e3 : γ 3 = .int .i64 r := h3
          have e8 : γ 8 = dgV (segL p (2 * i)) := h8
          have e14 : γ 14 = dgV (segL p (2 * i + 1)) := h14
          refine ⟨_, rfl, Or.inl ⟨rfl, predRun_call (f := 96) (args := #[plV d e s, .int .i64 r, dgV (segL p (2 * i)), dgV (segL p (2 * i + 1))]) (by simp only [putE, e2, e3, e8, e14]; go_simp) ?_⟩⟩
          exact (join_any d e s r (segL p (2 * i)) (segL p (2 * i + 1)) wx (HK.out.keep (by rw [← HA.out]; exact hS.2.2.2)) HE.out HS.out (segL_len HP.out (by omega)) (HB.out.seg _) (segL_len HP.out (by omega)) (HB.out.seg _)).mono fun e w2 ⟨h1, h2⟩ => ⟨_, h1, by show dgV _ = dgV z; rw [HZ.out.2.2], h2⟩
        · obtain ⟨h0, h1, h2, h3, h4, h5, h6, h7, h8, h9, h10, h11, h12, h13, h14, h15⟩ := h
          have e0 : γ 0 = .slice (some ⟨A + 1, 0, none⟩) m m := h0
          have e1 : γ 1 = .int .i64 i := h1
          have e2 : γ 2 = plV d e s := h2
          have e3 : γ 3 = .int .i64 r := h3
          have e4 : γ 4 = .slice (some ⟨B, 0, none⟩) n cap := h4
          have e5 : γ 5 = .int .i64 i := h5
          have e6 : γ 6 = .int .i64 (2 * (i : Int)) := h6
          have e7 : γ 7 = .pointer (some ⟨B, 2 * i * 16, none⟩) := h7
          have e8 : γ 8 = dgV (segL p (2 * i)) := h8
          have e9 : γ 9 = .slice (some ⟨B, 0, none⟩) n cap := h9
          have e10 : γ 10 = .int .i64 i := h10
          have e11 : γ 11 = .int .i64 (2 * (i : Int)) := h11
          have e12 : γ 12 = .int .i64 (2 * (i : Int) + 1) := h12
          have e13 : γ 13 = .pointer (some ⟨B, (2 * i + 1) * 16, none⟩) := h13
          have e14 : γ 14 = dgV (segL p (2 * i + 1)) := h14
          have e15 : γ 15 = dgV z := h15
          refine ⟨_, rfl, Or.inl ⟨rfl, ?_⟩⟩
          simp only [putE, e0, e1, e2, e3, e4, e5, e6, e7, e8, e9, e10, e11, e12, e13, e14, e15, Act.put, List.setIfInBounds_toArray, List.set_cons_zero, List.set_cons_succ]
          refine predRun_value (v := .pointer (some ⟨A + 1, i * 16, none⟩)) ?_ rfl
          exact exec_idx66 (x := .tmp 18) (y := .tmp 19) rfl rfl rfl rfl hlt
      · intro γ w9 hS h
        have e15 : γ 15 = dgV z := h.2.2.2.2.2.2.2.2.2.2.2.2.2.2.2.1
        have e16 : γ 16 = .pointer (some ⟨A + 1, i * 16, none⟩) := h.2.2.2.2.2.2.2.2.2.2.2.2.2.2.2.2
        simp only [putE, Act.put, List.setIfInBounds_toArray, List.set_cons_zero, List.set_cons_succ]
        rw [e15, e16]
        have F1 := Kp.mk hS.1
        have F2 := Kp.mk hS.2.1
        have F3 := Kp.mk hS.2.2.1
        have F4 := Kp.mk hS.2.2.2
        clear h hS e15 e16 G1 G2 G3 G4
        refine wpOps_step rfl rfl ?_
        refine wp_store_mid 43 (.tmp 34) (.tmp 33) rfl (A + 1) (i * 16) (kv .u8 z).toArray rfl rfl ?a1 ?a2 ?a3 ?_
        case a1 =>
          have h := F3.out.there (o := i * 16) (n := 16) (by rw [sumsRow_len HL.out.1 (by omega)]; omega)
          rw [kv_size, HZ.out.1]
          exact h
        case a2 => exact cells50 HZ.out.1
        case a3 => exact kv_all _ _
        have HR3 : Kp (Row (w9.setCells (A + 1) (i * 16) (kv .u8 z)) (A + 1) 43 .u8 (sumsRow q m (i + 1))) := ⟨by
          have h := Row.setCells z (i * 16) w9 _ (by rw [sumsRow_len HL.out.1 (by omega), HZ.out.1]; omega) F3.out
          have e := sumsRow_put HL.out.1 hlt
          rw [HZ.out.2.1] at e
          rw [e] at h
          exact h⟩
        refine wpOps_done ?_
        go_wp2_with fail
        exact ⟨⟨i + 1, by omega, by go_num, Blk.otherCells (by omega) _ _ _ F1.out, Row.otherCells (by omega) _ _ _ F2.out, HR3.out, Below.cells (by omega) _ _ _ _ F4.out⟩, by simp [intOf]; omega⟩
    · have hi' : i = m := by omega
      subst hi'
      rw [sumsRow_all HL.out.1, HQ9.out] at G3
      go_wp2_with fail
      go_ret
      exact ⟨A + 1, rfl, G3.out, by rw [← HA.out]; omega, by rw [← HA.out]; exact G4.out⟩
end Go.Proofs.YtibbinenhmiclaaDoor
