/-
  append, and in which block what comes of it lies; two rows that grow side by side.
-/
import Derived.Test.YtpljjmdkagbjpaaDoorTag
import Derived.Test.YtpljjmdkagbjpaaDoorRSumW
import Derived.ArgAppend
import Derived.OwnWalk
namespace Go.Proofs.YtpljjmdkagbjpaaDoor
open Go.RowKit

/-- append to a row of the call's own, and in which block what comes of it lies. -/
theorem wpList_append_own2 {P : Program} {w : World} {ops : Array Oper} {rest : List Oper} {o : Oper} {a : Act} {Q : Exit → Act → World → Prop} (hgd : o.guard = none) (s x : Operand) (t : TypeId)
    (ho : o.op = .call { callee := .builtin .append, args := #[s, x], argTypes := #[t, t] })
    (base : Nat) (e : TypeId) (i : TypeInfo) (z : Value) (size bytes : Nat) (ht : P.underlying t = some (.slice e)) (hi : P.info? e = some i) (hz : i.zero = some z)
    (hsize : i.size = size) (hby : i.bytes = bytes) (hzs : z.cells.size = size) (hsz : 0 < size)
    (v : Value) (n : Nat) (xs : List Value) (hs : a.eval s = v) (hown : w.ownsRow base e size v n xs)
    (ad : Addr) (m c : Nat) (news : List Value) (hx : a.eval x = .slice (some ad) m c) (hl : news.length = m * size) (hnews : ∀ j u, news[j]? = some u → w.cell? (ad.add j) = some u) (h1 : ∀ u ∈ news, u.oneCell' = true)
    (h63 : n + m ≤ maxLen) (hbytes : (n + m) * bytes ≤ 140737488355328) (hbase : base ≤ w.heap.size)
    (h : ∀ v' w', w'.ownsRow base e size v' (n + m) (xs ++ news) → w.grownBy w' v.ownBlock → (∀ k, v'.ownBlock = some k → v.ownBlock = some k ∨ w.heap.size ≤ k) → wpList P ops Q rest (a.put o.dst v') w') : wpList P ops Q (o :: rest) a w := by
  have hv := hown.2
  rcases hv with ⟨hv, h0⟩ | ⟨g, cap, cur, hv, hg, hh, hn, hc, hsz2, htk⟩
  · subst h0
    have hxs : xs = [] := List.eq_nil_of_length_eq_zero (by simpa using hown.1)
    subst hxs
    refine wpList_plain hgd fun K hK => ?_
    rw [hv] at hs
    obtain ⟨v', w', hrun, r1, r2, _⟩ := run_append_own (P := P) w w.heap.size t o.type e i z size bytes ht hi hz hsize hby hzs hsz (.slice none 0 0) 0 [] (World.ownsRow_nil w _ e size) ad m c news hl hnews h1 h63 hbytes (Nat.le_refl _)
    unfold Oper.wp
    simp [execOp, ho, resolve, invoke, builtin, hs, hx, hrun, Result.andThen]
    refine hK _ _ (h v' w' (ownsRow_base r1 hbase) (by rw [hv]; exact r2) fun k hk => .inr (r1.lt k hk).1)
  · subst hv
    by_cases hroom : n + m ≤ cap
    · refine wpList_append_fits w hgd s x t ho base e i size ht hi hsize g n cap xs hs hown ad m c news hx hl hnews h1 hroom fun w' h2 h3 => ?_
      exact h _ w' h2 h3 fun k hk => .inl hk
    · refine wpList_append_grows w hgd s x t ho e i z size bytes ht hi hz hsize hby hzs hsz (some ⟨g, 0, none⟩) n cap xs hs (fun e => by cases e) hown.1 (fun b hb => by cases hb; exact hown.cells rfl) ad m c news hx hl hnews h1 (by omega) h63 hbytes fun v' w' h2 h3 => ?_
      exact h v' w' (ownsRow_base h2 hbase) ⟨h3.os, h3.tape, h3.output, h3.size, fun k hk _ => h3.block k hk (by simp)⟩ fun k hk => .inr (h2.lt k hk).1

/-- append of bytes that stand somewhere, to a row of the call's own, and in which block what comes of it lies. -/
theorem wpList_append_holds2 {w : World} {ops : Array Oper} {rest : List Oper} {o : Oper} {a : Act} {Q : Exit → Act → World → Prop} (hgd : o.guard = none) (s x : Operand)
    (ho : o.op = .call { callee := .builtin .append, args := #[s, x], argTypes := #[32, 32] })
    (base : Nat) (v : Value) (n : Nat) (xs : List Value) (hs : a.eval s = v) (hown : w.ownsRow base 5 1 v n xs)
    (M : Nat) (u : Value) (p : List Int) (hx : a.eval x = u) (hp : HoldsB w M u p) (h63 : n + p.length ≤ 140737488355328) (hbase : base ≤ w.heap.size)
    (h : ∀ v' w', w'.ownsRow base 5 1 v' (n + p.length) (xs ++ bv p) → w.grownBy w' v.ownBlock → (∀ k, v'.ownBlock = some k → v.ownBlock = some k ∨ w.heap.size ≤ k) → wpList Tryd.prog ops Q rest (a.put o.dst v') w') : wpList Tryd.prog ops Q (o :: rest) a w := by
  obtain ⟨i0, hi, hz0, hz1, hz2⟩ := info_parts info5
  obtain ⟨ad, m, cap, rfl, hm⟩ := hp.slice
  cases ad with
  | none =>
    obtain ⟨a', cap', h1, h2, h3, h4, h5, h6, h7⟩ := hp
    simp only [Value.slice.injEq] at h1
    have hc := h4 h1.1.symm
    have hl : p = [] := List.length_eq_zero_iff.1 (by omega)
    subst hl
    have hx' : a.eval x = .slice none 0 0 := by rw [hx]; simp only [Value.slice.injEq, true_and]; exact ⟨by simpa using hm, by omega⟩
    exact wpList_append_own_none hgd s x 32 ho base 5 i0 1 Tryd.underlying32 hi v n xs hs hown hx' (h v w (by simpa using hown) ⟨rfl, rfl, rfl, Nat.le_refl _, fun _ _ _ => rfl⟩ fun k hk => .inl hk)
  | some ad =>
    refine wpList_append_own2 (w := w) hgd s x 32 ho base 5 i0 (.int .u8 0) 1 1 Tryd.underlying32 hi hz0 hz1 hz2 rfl (by decide) v n xs hs hown ad m cap (bv p) hx (by rw [bv_len]; omega) hp.news (bv_one _) (by unfold maxLen; omega) (by omega) hbase fun v' w' h1 h2 h3 => ?_
    rw [hm] at h1
    exact h v' w' h1 h2 h3
theorem over_succ {l : List Int} {j : Nat} (h : j < l.length) (x : Int) : over (l.take (j + 1)) x = over (l.take j) x ++ [bits .xor .u8 (l.getD j 0) x] := by
  rw [take_succ_get h]
  unfold over
  rw [List.map_append]
  rfl
/-- Two rows of the call's own, in no one block. -/
structure Twin (w : World) (A : Nat) (v u : Value) (n m : Nat) (l k : List Int) : Prop where
  one : w.ownsRow A 5 1 v n (bv l)
  two : w.ownsRow A 5 1 u m (bv k)
  off : ∀ g, v.ownBlock = some g → u.ownBlock ≠ some g
theorem Twin.swap {w : World} {A : Nat} {v u : Value} {n m : Nat} {l k : List Int} (h : Twin w A v u n m l k) : Twin w A u v m n k l := ⟨h.two, h.one, fun g e1 e2 => h.off g e2 e1⟩
theorem Twin.alloc {w : World} {A : Nat} {v u : Value} {n m : Nat} {l k : List Int} (h : Twin w A v u n m l k) (o : Obj) : Twin (w.alloc o) A v u n m l k := ⟨h.one.alloc o, h.two.alloc o, h.off⟩
theorem Twin.step {w w' : World} {A : Nat} {v u v' : Value} {n m : Nat} {l k : List Int} {p : List Int} (h : Twin w A v u n m l k) (h1 : w'.ownsRow A 5 1 v' (n + p.length) (bv l ++ bv p)) (h2 : w.grownBy w' v.ownBlock)
    (h3 : ∀ g, v'.ownBlock = some g → v.ownBlock = some g ∨ w.heap.size ≤ g) : Twin w' A v' u (n + p.length) m (l ++ p) k := by
  refine ⟨by rw [show bv (l ++ p) = bv l ++ bv p by simp]; exact h1, ?_, fun g hg hu => ?_⟩
  · refine h.two.kept (row := v.ownBlock) h2 ?_
    by_cases hu : u.ownBlock = none
    · exact Or.inl hu
    · obtain ⟨g, hg⟩ := Option.ne_none_iff_exists'.1 hu
      exact Or.inr (fun e => h.off g (by rw [← e]; exact hg) hg)
  · rcases h3 g hg with h4 | h4
    · exact h.off g h4 hu
    · have := (h.two.lt g hu).2
      omega
end Go.Proofs.YtpljjmdkagbjpaaDoor
