/-
  append, and in which block what comes of it lies; two rows that grow side by side.
  The document's Num: a number as four or eight bytes.
  A second law of this seat's own on regions that draw their order: beside operations that answer one value in every world that meets S, the region may make new variables (their blocks are known only as new and apart), and end in operations that wait for all that stands ahead of them, and for each other; these are walked one behind the other.
-/
import Derived.Test.YtibbinenhmiclaaDoorSn04
import Derived.ArgAppend
import Derived.OwnWalk
namespace Go.Proofs.YtibbinenhmiclaaDoor
open Go.RowKit

/-- append to a row of the call's own, and in which block what comes of it lies. -/
theorem wpList_append_own2 {P : Program} {w : World} {ops : Array Oper} {rest : List Oper} {o : Oper} {a : Act} {Q : Exit → Act → World → Prop} (hgd : o.guard = none) (s x : Operand) (t : TypeId)
    (ho : o.op = .call { callee := .builtin .append, args := #[s, x], argTypes := #[t, t] })
    (base : Nat) (e : TypeId) (i : TypeInfo) (z : Value) (size bytes : Nat) (ht : P.underlying t = some (.slice e)) (hi : P.info? e = some i) (hz : i.zero = some z)
    (hsize : i.size = size) (hby : i.bytes = bytes) (hzs : z.cells.size = size) (hsz : 0 < size)
    (v : Value) (n : Nat) (xs : List Value) (hs : a.eval s = v) (hown : w.ownsRow base e size v n xs)
    (ad : Addr) (m c : Nat) (news : List Value) (hx : a.eval x = .slice (some ad) m c) (hl : news.length = m * size) (hnews : ∀ j u, news[j]? = some u → w.cell? (ad.add j) = some u) (h1 : ∀ u ∈ news, u.oneCell' = true)
    (h63 : n + m ≤ maxLen) (hbytes : (n + m) * bytes ≤ 140737488355328) (hbase : base ≤ w.heap.size)
    (h : ∀ v' w', w'.ownsRow base e size v' (n + m) (xs ++ news) → w.grownBy w' v.ownBlock → (∀ k, v'.ownBlock = some k → v.ownBlock = some k ∨ w.heap.size ≤ k) → wpList P ops Q rest (a.put o.dst v') w') : wpList P ops Q (o :: rest) a w := by
  have hv := hown.2
  rcases hv with ⟨hv, h0⟩ | ⟨g, cap, cur, hv, hg, hh, hn, hc, hsz2, htk⟩
  · subst h0
    have hxs : xs = [] := List.eq_nil_of_length_eq_zero (by simpa using hown.1)
    subst hxs
    refine wpList_plain hgd fun K hK => ?_
    rw [hv] at hs
    obtain ⟨v', w', hrun, r1, r2, _⟩ := run_append_own (P := P) w w.heap.size t o.type e i z size bytes ht hi hz hsize hby hzs hsz (.slice none 0 0) 0 [] (World.ownsRow_nil w _ e size) ad m c news hl hnews h1 h63 hbytes (Nat.le_refl _)
    unfold Oper.wp
    simp [execOp, ho, resolve, invoke, builtin, hs, hx, hrun, Result.andThen]
    refine hK _ _ (h v' w' (ownsRow_base r1 hbase) (by rw [hv]; exact r2) fun k hk => .inr (r1.lt k hk).1)
  · subst hv
    by_cases hroom : n + m ≤ cap
    · refine wpList_append_fits w hgd s x t ho base e i size ht hi hsize g n cap xs hs hown ad m c news hx hl hnews h1 hroom fun w' h2 h3 => ?_
      exact h _ w' h2 h3 fun k hk => .inl hk
    · refine wpList_append_grows w hgd s x t ho e i z size bytes ht hi hz hsize hby hzs hsz (some ⟨g, 0, none⟩) n cap xs hs (fun e => by cases e) hown.1 (fun b hb => by cases hb; exact hown.cells rfl) ad m c news hx hl hnews h1 (by omega) h63 hbytes fun v' w' h2 h3 => ?_
      exact h v' w' (ownsRow_base h2 hbase) ⟨h3.os, h3.tape, h3.output, h3.size, fun k hk _ => h3.block k hk (by simp)⟩ fun k hk => .inr (h2.lt k hk).1

/-- append of bytes that stand somewhere, to a row of the call's own, and in which block what comes of it lies. -/
theorem wpList_append_holds2 {w : World} {ops : Array Oper} {rest : List Oper} {o : Oper} {a : Act} {Q : Exit → Act → World → Prop} (hgd : o.guard = none) (s x : Operand)
    (ho : o.op = .call { callee := .builtin .append, args := #[s, x], argTypes := #[131, 131] })
    (base : Nat) (v : Value) (n : Nat) (xs : List Value) (hs : a.eval s = v) (hown : w.ownsRow base 5 1 v n xs)
    (M : Nat) (u : Value) (p : List Int) (hx : a.eval x = u) (hp : HoldsB w M u p) (h63 : n + p.length ≤ 140737488355328) (hbase : base ≤ w.heap.size)
    (h : ∀ v' w', w'.ownsRow base 5 1 v' (n + p.length) (xs ++ bv p) → w.grownBy w' v.ownBlock → (∀ k, v'.ownBlock = some k → v.ownBlock = some k ∨ w.heap.size ≤ k) → wpList Tryd.prog ops Q rest (a.put o.dst v') w') : wpList Tryd.prog ops Q (o :: rest) a w := by
  obtain ⟨i0, hi, hz0, hz1, hz2⟩ := info_parts info5
  obtain ⟨ad, m, cap, rfl, hm⟩ := hp.slice
  cases ad with
  | none =>
    obtain ⟨a', cap', h1, h2, h3, h4, h5, h6, h7⟩ := hp
    simp only [Value.slice.injEq] at h1
    have hc := h4 h1.1.symm
    have hl : p = [] := List.length_eq_zero_iff.1 (by omega)
    subst hl
    have hx' : a.eval x = .slice none 0 0 := by rw [hx]; simp only [Value.slice.injEq, true_and]; exact ⟨by simpa using hm, by omega⟩
    exact wpList_append_own_none hgd s x 131 ho base 5 i0 1 Tryd.underlying131 hi v n xs hs hown hx' (h v w (by simpa using hown) ⟨rfl, rfl, rfl, Nat.le_refl _, fun _ _ _ => rfl⟩ fun k hk => .inl hk)
  | some ad =>
    refine wpList_append_own2 (w := w) hgd s x 131 ho base 5 i0 (.int .u8 0) 1 1 Tryd.underlying131 hi hz0 hz1 hz2 rfl (by decide) v n xs hs hown ad m cap (bv p) hx (by rw [bv_len]; omega) hp.news (bv_one _) (by unfold maxLen; omega) (by omega) hbase fun v' w' h1 h2 h3 => ?_
    rw [hm] at h1
    exact h v' w' h1 h2 h3
theorem over_succ {l : List Int} {j : Nat} (h : j < l.length) (x : Int) : over (l.take (j + 1)) x = over (l.take j) x ++ [bits .xor .u8 (l.getD j 0) x] := by
  rw [take_succ_get h]
  unfold over
  rw [List.map_append]
  rfl
/-- Two rows of the call's own, in no one block. -/
structure Twin (w : World) (A : Nat) (v u : Value) (n m : Nat) (l k : List Int) : Prop where
  one : w.ownsRow A 5 1 v n (bv l)
  two : w.ownsRow A 5 1 u m (bv k)
  off : ∀ g, v.ownBlock = some g → u.ownBlock ≠ some g
theorem Twin.swap {w : World} {A : Nat} {v u : Value} {n m : Nat} {l k : List Int} (h : Twin w A v u n m l k) : Twin w A u v m n k l := ⟨h.two, h.one, fun g e1 e2 => h.off g e2 e1⟩
theorem Twin.alloc {w : World} {A : Nat} {v u : Value} {n m : Nat} {l k : List Int} (h : Twin w A v u n m l k) (o : Obj) : Twin (w.alloc o) A v u n m l k := ⟨h.one.alloc o, h.two.alloc o, h.off⟩
theorem Twin.step {w w' : World} {A : Nat} {v u v' : Value} {n m : Nat} {l k : List Int} {p : List Int} (h : Twin w A v u n m l k) (h1 : w'.ownsRow A 5 1 v' (n + p.length) (bv l ++ bv p)) (h2 : w.grownBy w' v.ownBlock)
    (h3 : ∀ g, v'.ownBlock = some g → v.ownBlock = some g ∨ w.heap.size ≤ g) : Twin w' A v' u (n + p.length) m (l ++ p) k := by
  refine ⟨by rw [show bv (l ++ p) = bv l ++ bv p by simp]; exact h1, ?_, fun g hg hu => ?_⟩
  · refine h.two.kept (row := v.ownBlock) h2 ?_
    by_cases hu : u.ownBlock = none
    · exact Or.inl hu
    · obtain ⟨g, hg⟩ := Option.ne_none_iff_exists'.1 hu
      exact Or.inr (fun e => h.off g (by rw [← e]; exact hg) hg)
  · rcases h3 g hg with h4 | h4
    · exact h.off g h4 hu
    · have := (h.two.lt g hu).2
      omega
end Go.Proofs.YtibbinenhmiclaaDoor

namespace Go.Proofs.YtibbinenhmiclaaDoor
open Go.RowKit

/-- A number as so many bytes. -/
def numL (x : Int) (k : Nat) : List Int := (List.range k).map fun i => x / 256 ^ (k - 1 - i) % 256
theorem numL_len (x : Int) (k : Nat) : (numL x k).length = k := by simp [numL]
theorem numL_eight (x : Int) : numL x 8 = be64 x := rfl
theorem numL_bytes (x : Int) (k : Nat) : Bytes (numL x k) := by
  intro y hy
  obtain ⟨i, _, rfl⟩ := List.mem_map.1 hy
  omega
/-- What stands behind j rounds. -/
def lowN (x : Int) (k j : Nat) : List Int := List.replicate (k - j) 0 ++ (numL x k).drop (k - j)
theorem lowN_len (x : Int) (k j : Nat) (_h : j ≤ k) : (lowN x k j).length = k := by simp [lowN, numL_len]
theorem lowN_full (x : Int) (k : Nat) : lowN x k k = numL x k := by simp [lowN]
theorem lowN_zero (x : Int) (k : Nat) : lowN x k 0 = List.replicate k 0 := by simp [lowN, List.drop_of_length_le (Nat.le_of_eq (numL_len x k))]
theorem lowN_set (x : Int) (k j : Nat) (h : j < k) : (lowN x k j).set (k - 1 - j) (x / 256 ^ j % 256) = lowN x k (j + 1) := by
  unfold lowN
  have e : k - j = (k - (j + 1)) + 1 := by omega
  rw [e, List.replicate_succ', List.append_assoc, List.set_append_right _ _ (by simp; omega)]
  have e2 : k - 1 - j - (List.replicate (k - (j + 1)) (0 : Int)).length = 0 := by simp; omega
  rw [e2]
  congr 1
  rw [List.singleton_append, List.set_cons_zero, List.drop_eq_getElem_cons (i := k - (j + 1)) (by rw [numL_len]; omega)]
  congr 1
  unfold numL
  rw [List.getElem_map, List.getElem_range, show k - 1 - (k - (j + 1)) = j by omega]
theorem make22 (k : Nat) (h : k = 4 ∨ k = 8) (w : World) : (Instr.makeSlice 131 (.int .i64 k) (.int .i64 k)).run Tryd.prog w = .ok (.slice (some ⟨w.heap.size, 0, none⟩) k k) (w.alloc (.cells (kv .u8 (List.replicate k 0)).toArray 5)) := by
  rcases h with rfl | rfl <;> kernel_rfl
end Go.Proofs.YtibbinenhmiclaaDoor

namespace Go.Proofs.YtibbinenhmiclaaDoor
open Go.RowKit

section
variable {P : Program} {ops : Array Oper} {Q : Exit → Act → World → Prop} {S : World → Prop}

/-- The numbers of the operations for which number j waits (in so many steps). -/
def waits (ops : Array Oper) : Nat → Nat → Nat → Bool
  | 0, _, _ => false
  | f + 1, j, x => match ops[j]? with
    | some o => o.after.any fun e => Region.binds .any e && (e.on == x || waits ops f e.on x)
    | none => false

/-- What has come up is closed: all for which it waits has come up. -/
def Closed (ops : Array Oper) (listed : Array Bool) : Prop :=
  ∀ (i : Nat) (o : Oper) (e : Edge), listed.getD i false = true → ops[i]? = some o → e ∈ o.after → Region.binds .any e = true → listed.getD e.on false = true

theorem waits_listed {listed : Array Bool} (hc : Closed ops listed) : ∀ (f j x : Nat) (o : Oper), ops[j]? = some o → (∀ e ∈ o.after, Region.binds .any e = true → listed.getD e.on false = true) →
    waits ops f j x = true → listed.getD x false = true
  | 0, _, _, _, _, _, h => by simp [waits] at h
  | f + 1, j, x, o, ho, hall, h => by
    simp only [waits, ho, Array.any_eq_true', Bool.and_eq_true, Bool.or_eq_true, beq_iff_eq] at h
    obtain ⟨e, he, hb, h⟩ := h
    have hl := hall e he hb
    rcases h with rfl | h
    · exact hl
    · cases ho2 : ops[e.on]? with
      | none =>
        cases f with
        | zero => simp [waits] at h
        | succ f => simp [waits, ho2] at h
      | some o2 => exact waits_listed hc f e.on x o2 ho2 (fun e2 he2 hb2 => hc e.on o2 e2 hl ho2 he2 hb2) h

def dstOf (ops : Array Oper) (i : Nat) : Option Tmp := (ops[i]?).bind (·.dst)

/-- The new variables that have been made, in their slots. -/
def putNew (ops : Array Oper) (γ : Nat → Option Nat) : List Nat → Act → Act
  | [], a => a
  | i :: r, a => putNew ops γ r (match γ i with | some b => a.put (dstOf ops i) (.pointer (some ⟨b, 0, none⟩)) | none => a)

/-- The parts: vs: values, one behind the other; news: new variables; bs: the end. -/
def partsOk (ops : Array Oper) (vs news bs : List Nat) : Bool :=
  ((List.range ops.size).all fun i => vs.contains i || news.contains i || bs.contains i) &&
  (vs.all fun i => decide (i < ops.size) && !news.contains i && !bs.contains i) && (news.all fun i => decide (i < ops.size) && !bs.contains i) && (bs.all fun i => decide (i < ops.size)) &&
  decide (vs.Pairwise (· < ·)) && decide (news.Nodup) &&
  (vs.all fun j => match ops[j]? with
    | some oj => (oj.after.all fun e => !Region.binds .any e || (vs.contains e.on && decide (e.on < j))) &&
        (vs.all fun i => !decide (i < j) || (oj.after.any fun e => Region.binds .any e && e.on == i) || (match ops[i]? with | some oi => oi.apart ops oj | none => false)) &&
        (news.all fun i => match ops[i]? with | some oi => oi.apart ops oj && oj.apart ops oi | none => false)
    | none => false) &&
  (news.all fun j => match ops[j]? with
    | some oj => (oj.after.all fun e => !Region.binds .any e) && oj.guard.isNone && (news.all fun i => i == j || (match ops[i]? with | some oi => oi.apart ops oj | none => false))
    | none => false) &&
  (bs.zipIdx.all fun (j, k) => match ops[j]? with
    | some oj => (oj.after.all fun e => !Region.binds .any e || vs.contains e.on || news.contains e.on || (bs.take k).contains e.on) &&
        ((vs ++ news ++ bs.take k).all fun x => waits ops ops.size j x)
    | none => false)

theorem put_same_apart {a : Act} {x y : Option Tmp} (v u : Value) (h : ∀ d, x = some d → y ≠ some d) : (a.put x v).put y u = (a.put y u).put x v := Act.put_comm a v u h

theorem putNew_put (γ : Nat → Option Nat) : ∀ (l : List Nat) (a : Act) (d : Option Tmp) (v : Value), (∀ i ∈ l, ∀ t, dstOf ops i = some t → d ≠ some t) → putNew ops γ l (a.put d v) = (putNew ops γ l a).put d v
  | [], _, _, _, _ => rfl
  | i :: r, a, d, v, h => by
    have hi := h i (by simp)
    unfold putNew
    cases γ i with
    | none => exact putNew_put γ r a d v fun j hj => h j (List.mem_cons_of_mem _ hj)
    | some b =>
      simp only
      rw [Act.put_comm a v _ (fun t ht => fun hx => hi t hx ht)]
      exact putNew_put γ r _ d v fun j hj => h j (List.mem_cons_of_mem _ hj)

theorem putNew_congr {γ γ' : Nat → Option Nat} : ∀ (l : List Nat) (a : Act), (∀ i ∈ l, γ i = γ' i) → putNew ops γ l a = putNew ops γ' l a
  | [], _, _ => rfl
  | i :: r, a, h => by
    unfold putNew
    rw [h i (by simp)]
    exact putNew_congr r _ fun j hj => h j (List.mem_cons_of_mem _ hj)

/-- One variable more. -/
theorem putNew_set (γ : Nat → Option Nat) (i b : Nat) : ∀ (l : List Nat) (a : Act), i ∈ l → l.Nodup → γ i = none → (∀ j ∈ l, j ≠ i → ∀ t, dstOf ops j = some t → dstOf ops i ≠ some t) →
    putNew ops (fun j => if j = i then some b else γ j) l a = (putNew ops γ l a).put (dstOf ops i) (.pointer (some ⟨b, 0, none⟩))
  | [], _, h, _, _, _ => by cases h
  | j :: r, a, h, hnd, h0, hap => by
    have hnd' := List.nodup_cons.1 hnd
    by_cases hji : j = i
    · subst hji
      unfold putNew
      rw [h0]
      simp only [if_true]
      rw [putNew_congr (γ' := γ) r _ (fun k hk => by rw [if_neg (fun (e : k = j) => hnd'.1 (e ▸ hk))])]
      exact putNew_put γ r a _ _ fun k hk t ht => hap k (List.mem_cons_of_mem _ hk) (fun e => hnd'.1 (e ▸ hk)) t ht
    · unfold putNew
      rw [if_neg hji]
      exact putNew_set γ i b r _ (by cases h with | head => exact absurd rfl hji | tail _ h => exact h) hnd'.2 h0 fun k hk => hap k (List.mem_cons_of_mem _ hk)

theorem eval_putNew (γ : Nat → Option Nat) (o : Oper) (hs : ∀ cs b, o.op ≠ .select cs b) : ∀ (l : List Nat) (a : Act), (∀ i ∈ l, ∀ t, dstOf ops i = some t → t ∉ o.looksAt ops) →
    execOp (putNew ops γ l a).eval o = execOp a.eval o ∧ Region.wanted o (yielded ops (putNew ops γ l a).tmps) = Region.wanted o (yielded ops a.tmps)
  | [], _, _ => ⟨rfl, rfl⟩
  | i :: r, a, h => by
    unfold putNew
    have ih := fun a => eval_putNew γ o hs r a fun j hj => h j (List.mem_cons_of_mem _ hj)
    cases γ i with
    | none => exact ih a
    | some b =>
      have hd : ∀ d, dstOf ops i = some d → d ∉ o.looksAt ops := h i (by simp)
      exact ⟨((ih _).1).trans (execOp_put o hs a _ _ hd), ((ih _).2).trans (wanted_put o a _ _ hd)⟩

theorem partsOk_spec {vs news bs : List Nat} (h : partsOk ops vs news bs = true) :
    (∀ i, i < ops.size → i ∈ vs ∨ i ∈ news ∨ i ∈ bs) ∧ (∀ i ∈ vs, i < ops.size ∧ i ∉ news ∧ i ∉ bs) ∧ (∀ i ∈ news, i < ops.size ∧ i ∉ bs) ∧ (∀ i ∈ bs, i < ops.size) ∧ vs.Pairwise (· < ·) ∧ news.Nodup ∧
    (∀ j ∈ vs, ∀ oj, ops[j]? = some oj → (∀ e ∈ oj.after, Region.binds .any e = true → e.on ∈ vs ∧ e.on < j) ∧
      (∀ i ∈ vs, i < j → ∀ oi, ops[i]? = some oi → (∀ e ∈ oj.after, Region.binds .any e = true → e.on ≠ i) → oi.apart ops oj = true) ∧
      (∀ i ∈ news, ∀ oi, ops[i]? = some oi → oi.apart ops oj = true ∧ oj.apart ops oi = true)) ∧
    (∀ j ∈ news, ∀ oj, ops[j]? = some oj → (∀ e ∈ oj.after, Region.binds .any e = false) ∧ oj.guard = none ∧ (∀ i ∈ news, i ≠ j → ∀ oi, ops[i]? = some oi → oi.apart ops oj = true)) ∧
    (∀ (k j : Nat), bs[k]? = some j → ∀ oj, ops[j]? = some oj → (∀ e ∈ oj.after, Region.binds .any e = true → e.on ∈ vs ∨ e.on ∈ news ∨ e.on ∈ bs.take k) ∧
      (∀ x, x ∈ vs ∨ x ∈ news ∨ x ∈ bs.take k → waits ops ops.size j x = true)) := by
  unfold partsOk at h
  simp only [Bool.and_eq_true, List.all_eq_true, decide_eq_true_eq, List.mem_range, Bool.or_eq_true, Bool.not_eq_true', List.contains_eq_mem, decide_eq_false_iff_not] at h
  obtain ⟨⟨⟨⟨⟨⟨⟨⟨h1, h2⟩, h3⟩, h4⟩, h5⟩, h6⟩, h7⟩, h8⟩, h9⟩ := h
  refine ⟨fun i hi => by rcases h1 i hi with (h | h) | h <;> simp [h], fun i hi => ⟨(h2 i hi).1.1, (h2 i hi).1.2, (h2 i hi).2⟩, fun i hi => h3 i hi, h4, h5, h6, fun j hj oj hoj => ?_, fun j hj oj hoj => ?_, fun k j hk oj hoj => ?_⟩
  · have h := h7 j hj
    rw [hoj] at h
    simp only [Bool.and_eq_true, Array.all_eq_true_iff_forall_mem, List.all_eq_true, Bool.or_eq_true, Bool.not_eq_true', decide_eq_true_eq, decide_eq_false_iff_not, Array.any_eq_true', beq_iff_eq] at h
    obtain ⟨⟨a1, a2⟩, a3⟩ := h
    refine ⟨fun e he hb => ?_, fun i hi hij oi hoi hno => ?_, fun i hi oi hoi => ?_⟩
    · rcases a1 e he with h | h
      · rw [hb] at h; cases h
      · exact h
    · rcases a2 i hi with (h | h) | h
      · exact absurd hij h
      · obtain ⟨e, he, hb, heq⟩ := h
        exact absurd heq (hno e he hb)
      · rw [hoi] at h; exact h
    · have h := a3 i hi
      rw [hoi] at h
      simpa using h
  · have h := h8 j hj
    rw [hoj] at h
    simp only [Bool.and_eq_true, Array.all_eq_true_iff_forall_mem, List.all_eq_true, Bool.or_eq_true, Bool.not_eq_true', beq_iff_eq, Option.isNone_iff_eq_none] at h
    obtain ⟨⟨a1, a2⟩, a3⟩ := h
    refine ⟨a1, a2, fun i hi hne oi hoi => ?_⟩
    rcases a3 i hi with h | h
    · exact absurd h hne
    · rw [hoi] at h; exact h
  · have hm : (j, k) ∈ bs.zipIdx := by rw [List.mem_zipIdx_iff_getElem?]; exact hk
    have h := h9 _ hm
    simp only [hoj, Bool.and_eq_true, Array.all_eq_true_iff_forall_mem, List.all_eq_true, Bool.or_eq_true, Bool.not_eq_true', decide_eq_true_eq, List.mem_append] at h
    refine ⟨fun e he hb => ?_, fun x hx => h.2 x (by simpa [or_assoc] using hx)⟩
    rcases h.1 e he with ((h | h) | h) | h
    · rw [hb] at h; cases h
    · exact .inl h
    · exact .inr (.inl h)
    · exact .inr (.inr h)

/-- What holds of the new variables. -/
structure News (news : List Nat) (B0 : Nat) (zo : Nat → Obj) (γ : Nat → Option Nat) (w : World) : Prop where
  blk : ∀ i ∈ news, ∀ b, γ i = some b → Blk w b (zo i) ∧ B0 ≤ b
  apart : ∀ i ∈ news, ∀ j ∈ news, i ≠ j → ∀ b c, γ i = some b → γ j = some c → b ≠ c

theorem News.keep {news : List Nat} {B0 : Nat} {zo : Nat → Obj} {γ : Nat → Option Nat} {w w' : World} (h : News news B0 zo γ w) (hb : Below w.heap.size w w') : News news B0 zo γ w' :=
  ⟨fun i hi b hg => ⟨(h.blk i hi b hg).1.keep hb, (h.blk i hi b hg).2⟩, h.apart⟩

theorem listed_set {listed : Array Bool} {i : Nat} (hi : i < listed.size) (j : Nat) : (listed.setIfInBounds i true).getD j false = if j = i then true else listed.getD j false := by
  by_cases h : j = i
  · subst h; simp [hi]
  · rw [if_neg h, getD_set_ne false (Ne.symm h)]

/-- The end: one behind the other. -/
theorem wpAny_end {vs news bs : List Nat} (hok : partsOk ops vs news bs = true) : ∀ (rest : List Nat) (k : Nat) (fuel : Nat) (listed : Array Bool) (a : Act) (w : World),
    bs.drop k = rest → listed.size = ops.size → rest.length ≤ fuel → bs.Nodup → (∀ i, i < ops.size → (listed.getD i false = true ↔ i ∉ rest)) →
    wpOps P ops Q rest a w → wpAny P .any ops Q fuel listed a w := by
  obtain ⟨hall, hvs, hnews, hbs, hlt, hnd, hV, hN, hB⟩ := partsOk_spec hok
  intro rest
  induction rest with
  | nil =>
    intro k fuel listed a w hd hsz hf hbnd hl h
    have hr : Region.ready .any ops listed = [] := by
      rw [List.eq_nil_iff_forall_not_mem]
      intro i hi
      obtain ⟨h0, o, ho, _⟩ := mem_ready.1 hi
      have hin := (Array.getElem?_eq_some_iff.1 ho).1
      have := (hl i hin).2 (by simp)
      have hsz' : i < listed.size := by omega
      simp [hsz'] at h0 this
      rw [h0] at this
      cases this
    cases fuel with
    | zero => exact ⟨hr, h⟩
    | succ fuel => exact ⟨fun _ => h, by rw [hr]; simp⟩
  | cons j rest ih =>
    intro k fuel listed a w hd hsz hf hbnd hl h
    cases fuel with
    | zero => simp at hf
    | succ fuel =>
      have hk : bs[k]? = some j := by
        have := congrArg (fun l => l[0]?) hd
        simpa using this
      have hjb : j ∈ bs := List.mem_of_getElem? hk
      have hjn := hbs j hjb
      have hdrop : bs.drop (k + 1) = rest := by
        rw [← List.drop_drop, hd]; rfl
      have hbs' : bs = bs.take k ++ j :: rest := by rw [← hd, List.take_append_drop]
      have hnd' : (bs.take k ++ j :: rest).Nodup := hbs' ▸ hbnd
      have hjr : j ∉ rest := fun hm => by
        have := (List.nodup_append.1 hnd').2.1
        exact (List.nodup_cons.1 this).1 hm
      have hunl : listed.getD j true = false := by
        have hne : ¬ listed.getD j false = true := fun hx => ((hl j hjn).1 hx) (by simp)
        have hsz' : j < listed.size := by omega
        simp [hsz'] at hne ⊢
        exact hne
      obtain ⟨oj, hoj⟩ : ∃ o, ops[j]? = some o := ⟨_, Array.getElem?_eq_getElem hjn⟩
      have hone : ∀ i, i ∈ Region.ready .any ops listed → i = j := fun i hi => by
        obtain ⟨h0, o, ho, hdeps⟩ := mem_ready.1 hi
        have hin := (Array.getElem?_eq_some_iff.1 ho).1
        have hir : i ∈ j :: rest := by
          false_or_by_contra
          rename_i hno
          have := (hl i hin).2 hno
          have hsz' : i < listed.size := by omega
          simp [hsz'] at h0 this
          rw [h0] at this
          cases this
        cases hir with
        | head => rfl
        | tail _ hir =>
          exfalso
          -- i waits for j, which has not come up
          obtain ⟨m, hm⟩ := List.getElem?_of_mem hir
          have hbi : bs[k + 1 + m]? = some i := by
            have := congrArg (fun l => l[m]?) hdrop
            simp only [List.getElem?_drop] at this
            rw [this, hm]
          have hjt : j ∈ bs.take (k + 1 + m) := by
            exact List.mem_of_getElem? (i := k) (by rw [List.getElem?_take, if_pos (by omega)]; exact hk)
          have hw := (hB _ i hbi o ho).2 j (.inr (.inr hjt))
          have hclosed : ∀ x, x < ops.size → x ∉ j :: rest → listed.getD x false = true := fun x hx hno => (hl x hx).2 hno
          have hcl : Closed ops listed := fun x ox e hlx hox he hb => by
            have hxn := (Array.getElem?_eq_some_iff.1 hox).1
            have hxr := (hl x hxn).1 hlx
            rcases hall x hxn with hx | hx | hx
            · obtain ⟨he1, he2⟩ := (hV x hx ox hox).1 e he hb
              have := hvs _ he1
              exact hclosed _ this.1 fun hm => this.2.2 (hbs' ▸ List.mem_append_right _ hm)
            · have := (hN x hx ox hox).1 e he
              rw [hb] at this; cases this
            · obtain ⟨q, hq⟩ := List.getElem?_of_mem hx
              have hqk : q < k := by
                false_or_by_contra
                rename_i hge
                refine hxr ?_
                rw [← hd]
                exact List.mem_of_getElem? (i := q - k) (by rw [List.getElem?_drop, show k + (q - k) = q by omega]; exact hq)
              rcases (hB q x hq ox hox).1 e he hb with h1 | h1 | h1
              · exact hclosed _ (hvs _ h1).1 fun hm => (hvs _ h1).2.2 (hbs' ▸ List.mem_append_right _ hm)
              · exact hclosed _ (hnews _ h1).1 fun hm => (hnews _ h1).2 (hbs' ▸ List.mem_append_right _ hm)
              · have hek : e.on ∈ bs.take k := List.take_subset_take_left bs (by omega) h1
                refine hclosed _ (hbs _ (List.mem_of_mem_take h1)) fun hm => ?_
                exact (List.nodup_append.1 hnd').2.2 _ hek _ hm rfl
          have := waits_listed hcl ops.size i j o ho hdeps hw
          rw [hl j hjn] at this
          exact this (by simp)
      have hready : j ∈ Region.ready .any ops listed := by
        rw [mem_ready]
        refine ⟨hunl, oj, hoj, fun e he hb => ?_⟩
        rcases (hB k j hk oj hoj).1 e he hb with h1 | h1 | h1
        · exact (hl _ (hvs _ h1).1).2 fun hm => (hvs _ h1).2.2 (hbs' ▸ List.mem_append_right _ hm)
        · exact (hl _ (hnews _ h1).1).2 fun hm => (hnews _ h1).2 (hbs' ▸ List.mem_append_right _ hm)
        · exact (hl _ (hbs _ (List.mem_of_mem_take h1))).2 fun hm => (List.nodup_append.1 hnd').2.2 _ h1 _ hm rfl
      refine ⟨fun hr => (by rw [hr] at hready; cases hready), fun i hi => ?_⟩
      obtain rfl := hone i hi
      rw [wpOps_cons] at h
      refine wpOp_mono (fun a' w' h' => ih (k + 1) fuel _ a' w' hdrop (by simpa using hsz) (by simp at hf; omega) hbnd (fun x hx => ?_) h') h
      rw [listed_set (by omega)]
      by_cases hxi : x = i
      · subst hxi
        simp [hjr]
      · rw [if_neg hxi, hl x hx]
        simp [hxi]

theorem closed_set {listed : Array Bool} (hc : Closed ops listed) {i : Nat} (hi : i ∈ Region.ready .any ops listed) : Closed ops (listed.setIfInBounds i true) := by
  obtain ⟨h0, o, ho, hdeps⟩ := mem_ready.1 hi
  intro x ox e hx hox he hb
  by_cases hxi : x = i
  · subst hxi
    rw [ho] at hox
    cases hox
    exact getD_set_true (hdeps e he hb)
  · rw [getD_set_ne false (Ne.symm hxi)] at hx
    exact getD_set_true (hc x ox e hx hox he hb)

theorem getD_flip {listed : Array Bool} {i : Nat} (h : i < listed.size) : listed.getD i true = listed.getD i false := by simp [h]

theorem wpAny_vars {D : Act → Prop} (hmono : Stays S) (hs : ∀ (j : Nat) (o : Oper) cs b, ops[j]? = some o → o.op ≠ .select cs b) {vs news bs : List Nat} (hok : partsOk ops vs news bs = true) (hbnd : bs.Nodup)
    {B0 : Nat} {zo : Nat → Obj} (hnew : ∀ i ∈ news, ∀ (a : Act) (w : World), ∃ o, ops[i]? = some o ∧ (execOp a.eval o).run P w = .ok (.value (.pointer (some ⟨w.heap.size, 0, none⟩))) (w.alloc (zo i)))
    (hD : ∀ (a : Act) (γ : Nat → Option Nat) (w : World), D a → S w → News news B0 zo γ w → (∀ i ∈ news, γ i ≠ none) → wpOps P ops Q bs (putNew ops γ news a) w) :
    ∀ (fuel : Nat) (listed : Array Bool) (aV : Act) (γ : Nat → Option Nat) (rv : List Nat) (w : World), listed.size = ops.size → rv.length + (news.filter fun i => (γ i).isNone).length + bs.length ≤ fuel →
      S w → B0 ≤ w.heap.size → News news B0 zo γ w → (∀ i ∈ news, γ i = none ↔ listed.getD i false = false) → (∀ i ∈ bs, listed.getD i false = false) → Closed ops listed →
      FlowN P ops S D rv aV → rv.Pairwise (· < ·) → (∀ i ∈ vs, i ∈ rv ↔ listed.getD i false = false) → (∀ i ∈ rv, i ∈ vs) → wpAny P .any ops Q fuel listed (putNew ops γ news aV) w := by
  obtain ⟨hall, hvs, hnews, hbs, hlt, hnd, hV, hN, hB⟩ := partsOk_spec hok
  intro fuel
  induction fuel with
  | zero =>
    intro listed aV γ rv w hsz hf hS hB0 hnw hγ hbl hcl hfl hpw hrv hrv2
    have hr0 : rv = [] := List.length_eq_zero_iff.1 (by omega)
    have hn0 : (news.filter fun i => (γ i).isNone) = [] := List.length_eq_zero_iff.1 (by omega)
    have hb0 : bs = [] := List.length_eq_zero_iff.1 (by omega)
    subst hr0
    refine wpAny_end hok bs 0 0 listed _ w rfl hsz (by simp [hb0]) hbnd (fun i hi => ?_) (hD aV γ w hfl hS hnw fun i hi h0 => ?_)
    · refine ⟨fun _ => by simp [hb0], fun _ => ?_⟩
      rcases hall i hi with h | h | h
      · have := (hrv i h)
        simpa using this
      · have h1 : (γ i).isNone = false := by
          have := List.filter_eq_nil_iff.1 hn0 i h
          cases hg : γ i with
          | none => rw [hg] at this; simp at this
          | some b => rfl
        have := (hγ i h)
        cases hg : γ i with
        | none => rw [hg] at h1; cases h1
        | some b => rw [hg] at this; simpa using this
      · rw [hb0] at h; cases h
    · have := List.filter_eq_nil_iff.1 hn0 i hi
      rw [h0] at this
      simp at this
  | succ fuel ih =>
    intro listed aV γ rv w hsz hf hS hB0 hnw hγ hbl hcl hfl hpw hrv hrv2
    by_cases hdone : rv = [] ∧ ∀ i ∈ news, γ i ≠ none
    · obtain ⟨rfl, hg⟩ := hdone
      refine wpAny_end hok bs 0 (fuel + 1) listed _ w rfl hsz (by simp at hf; omega) hbnd (fun i hi => ?_) (hD aV γ w hfl hS hnw hg)
      rcases hall i hi with h | h | h
      · have h1 := hrv i h
        have h2 := (hvs i h).2.2
        simp at h1
        simp [h1, h2]
      · have h1 := hγ i h
        have h2 := (hnews i h).2
        have h3 := hg i h
        simp [h3] at h1
        simp [h1, h2]
      · have h1 := hbl i h
        rw [h1]
        simp [h]
    · -- something of vs or news has not come up
      have hleft : ∃ x, (x ∈ vs ∨ x ∈ news) ∧ listed.getD x false = false ∧ x ∈ Region.ready .any ops listed := by
        by_cases hg : ∀ i ∈ news, γ i ≠ none
        · cases hr : rv with
          | nil => exact absurd ⟨hr, hg⟩ hdone
          | cons j r =>
            have hj : j ∈ rv := by rw [hr]; simp
            have hjv := hrv2 j hj
            have hjl := (hrv j hjv).1 hj
            have hjn := (hvs j hjv).1
            refine ⟨j, .inl hjv, hjl, ?_⟩
            rw [mem_ready]
            refine ⟨by rw [getD_flip (by omega)]; exact hjl, ops[j], Array.getElem?_eq_getElem hjn, fun e he hb => ?_⟩
            obtain ⟨he1, he2⟩ := (hV j hjv _ (Array.getElem?_eq_getElem hjn)).1 e he hb
            have hno : e.on ∉ rv := fun hm => by
              rw [hr] at hm hpw
              cases hm with
              | head => omega
              | tail _ hm => have := (List.pairwise_cons.1 hpw).1 _ hm; omega
            have := fun h => hno ((hrv _ he1).2 h)
            simpa using this
        · simp only [Classical.not_forall] at hg
          obtain ⟨i, hi, h0⟩ := hg
          have h0 : γ i = none := Classical.not_not.1 h0
          have hin := (hnews i hi).1
          have hil := (hγ i hi).1 h0
          refine ⟨i, .inr hi, hil, ?_⟩
          rw [mem_ready]
          refine ⟨by rw [getD_flip (by omega)]; exact hil, ops[i], Array.getElem?_eq_getElem hin, fun e he hb => ?_⟩
          have := (hN i hi _ (Array.getElem?_eq_getElem hin)).1 e he
          rw [hb] at this
          cases this
      obtain ⟨x, hx, hxl, hxr⟩ := hleft
      refine ⟨fun hr => (by rw [hr] at hxr; cases hxr), fun i hi => ?_⟩
      obtain ⟨h0, oi, hoi, hdeps⟩ := mem_ready.1 hi
      have hin := (Array.getElem?_eq_some_iff.1 hoi).1
      have h0' : listed.getD i false = false := by rw [← getD_flip (by omega)]; exact h0
      rcases hall i hin with hiv | hinw | hib
      · -- a value
        have hir := (hrv i hiv).2 h0'
        obtain ⟨xs, ys, hsplit⟩ := List.append_of_mem hir
        rw [hsplit] at hfl hpw
        have hpw' := List.pairwise_append.1 hpw
        have hxs : ∀ y ∈ xs, ∀ oy, ops[y]? = some oy → oy.apart ops oi = true := fun y hy oy hoy => by
          have hyv : y ∈ vs := hrv2 y (by rw [hsplit]; simp [hy])
          have hyi : y < i := hpw'.2.2 y hy i (by simp)
          refine (hV i hiv oi hoi).2.1 y hyv hyi oy hoy fun e he hb heq => ?_
          have hl := hdeps e he hb
          rw [heq] at hl
          have := (hrv y hyv).1 (by rw [hsplit]; simp [hy])
          rw [hl] at this
          cases this
        obtain ⟨v, hv, h'⟩ := flowN_front hs hoi xs ys aV hxs hfl
        have hev := eval_putNew (ops := ops) γ oi (fun cs b => hs i oi cs b hoi) news aV fun n hn t ht => by
          obtain ⟨on, hon⟩ : ∃ o, ops[n]? = some o := ⟨_, Array.getElem?_eq_getElem (hnews n hn).1⟩
          have := ((hV i hiv oi hoi).2.2 n hn on hon).1
          exact (Oper.apart_spec this).1 t (by simpa [dstOf, hon] using ht)
        have hv' : FlowOp P ops S oi v (putNew ops γ news aV) := hv.of_same hev.1 hev.2
        refine hv'.wpOp hoi hS fun w' hb => ?_
        rw [← putNew_put γ news aV oi.dst v fun n hn t ht => by
          obtain ⟨on, hon⟩ : ∃ o, ops[n]? = some o := ⟨_, Array.getElem?_eq_getElem (hnews n hn).1⟩
          have := ((hV i hiv oi hoi).2.2 n hn on hon).1
          exact (Oper.apart_spec this).2.1 t (by simpa [dstOf, hon] using ht)]
        have hnd_rv : i ∉ xs ∧ i ∉ ys := by
          refine ⟨fun hm => ?_, fun hm => ?_⟩
          · have := hpw'.2.2 i hm i (by simp); omega
          · have := (List.pairwise_cons.1 hpw'.2.1).1 i hm; omega
        refine ih _ _ γ (xs ++ ys) w' (by simpa using hsz) ?_ (hmono _ _ hS hb) (Nat.le_trans hB0 hb.size) (hnw.keep hb) (fun n hn => ?_) (fun n hn => ?_) (closed_set hcl hi) h' ?_ (fun n hn => ?_) (fun n hn => ?_)
        · rw [hsplit] at hf; simp at hf ⊢; omega
        · rw [listed_set (by omega), if_neg (fun (e : n = i) => (hvs i hiv).2.1 (e ▸ hn))]; exact hγ n hn
        · rw [listed_set (by omega), if_neg (fun (e : n = i) => (hvs i hiv).2.2 (e ▸ hn))]; exact hbl n hn
        · rw [List.pairwise_append]
          exact ⟨hpw'.1, (List.pairwise_cons.1 hpw'.2.1).2, fun a ha b hb => hpw'.2.2 a ha b (by simp [hb])⟩
        · rw [listed_set (by omega)]
          by_cases hni : n = i
          · subst hni
            simp [hnd_rv.1, hnd_rv.2]
          · rw [if_neg hni, ← hrv n hn, hsplit]
            simp [hni]
        · exact hrv2 n (by rw [hsplit]; simp only [List.mem_append, List.mem_cons] at hn ⊢; rcases hn with h | h <;> simp [h])
      · -- a new variable
        have hg0 := (hγ i hinw).2 h0'
        obtain ⟨o, ho, hrun⟩ := hnew i hinw (putNew ops γ news aV) w
        rw [hoi] at ho
        cases ho
        have hguard := (hN i hinw oi hoi).2.1
        have hset := putNew_set (ops := ops) γ i w.heap.size news aV hinw hnd hg0 fun j hj hji t ht => by
          obtain ⟨oj, hoj⟩ : ∃ o, ops[j]? = some o := ⟨_, Array.getElem?_eq_getElem (hnews j hj).1⟩
          have := (hN i hinw oi hoi).2.2 j hj hji oj hoj
          have h2 := (Oper.apart_spec this).2.1 t (by simpa [dstOf, hoj] using ht)
          simpa [dstOf, hoi] using h2
        have hbel : Below w.heap.size w (w.alloc (zo i)) := (Below.refl _ _).alloc (Nat.le_refl _) _
        unfold Go.wpOp
        simp only [hoi]
        have hw : Region.wanted oi (yielded ops (putNew ops γ news aV).tmps) = true := by simp [Region.wanted, hguard]
        rw [if_pos hw]
        refine .inl ?_
        unfold Oper.wp
        rw [hrun]
        show wpAny P .any ops Q fuel _ ((putNew ops γ news aV).put oi.dst _) _
        have hd : dstOf ops i = oi.dst := by simp [dstOf, hoi]
        rw [hd] at hset
        rw [← hset]
        refine ih _ aV _ rv _ (by simpa using hsz) ?_ (hmono _ _ hS hbel) (Nat.le_trans hB0 hbel.size) ⟨fun n hn b hb => ?_, fun n hn m hm hnm b c hb hc => ?_⟩ (fun n hn => ?_) (fun n hn => ?_) (closed_set hcl hi) hfl hpw (fun n hn => ?_) hrv2
        · have : (news.filter fun j => (if j = i then some w.heap.size else γ j).isNone).length < (news.filter fun j => (γ j).isNone).length := by
            have h1 : (news.filter fun j => (if j = i then some w.heap.size else γ j).isNone) = (news.filter fun j => (γ j).isNone).filter fun j => decide (j ≠ i) := by
              rw [List.filter_filter]
              refine List.filter_congr fun j _ => ?_
              by_cases hji : j = i <;> simp [hji]
            rw [h1]
            refine List.length_filter_lt_length_iff_exists.2 ⟨i, List.mem_filter.2 ⟨hinw, by simp [hg0]⟩, by simp⟩
          omega
        · by_cases hni : n = i
          · subst hni
            simp only [if_true, Option.some.injEq] at hb
            subst hb
            exact ⟨Blk.new _ _, hB0⟩
          · rw [if_neg hni] at hb
            exact ⟨(hnw.blk n hn b hb).1.old _, (hnw.blk n hn b hb).2⟩
        · by_cases hni : n = i
          · subst hni
            rw [if_neg (Ne.symm hnm)] at hc
            simp only [if_true, Option.some.injEq] at hb
            have := ((hnw.blk m hm c hc).1).lt
            omega
          · rw [if_neg hni] at hb
            by_cases hmi : m = i
            · subst hmi
              simp only [if_true, Option.some.injEq] at hc
              have := ((hnw.blk n hn b hb).1).lt
              omega
            · rw [if_neg hmi] at hc
              exact hnw.apart n hn m hm hnm b c hb hc
        · rw [listed_set (by omega)]
          by_cases hni : n = i
          · simp [hni]
          · rw [if_neg hni, if_neg hni]; exact hγ n hn
        · rw [listed_set (by omega), if_neg (fun (e : n = i) => (hnews i hinw).2 (e ▸ hn))]; exact hbl n hn
        · rw [listed_set (by omega), if_neg (fun (e : n = i) => (hvs n hn).2.1 (e ▸ hinw))]; exact hrv n hn
      · -- the end waits for x
        exfalso
        obtain ⟨k, hk⟩ := List.getElem?_of_mem hib
        have hw := (hB k i hk oi hoi).2 x (by rcases hx with h | h <;> simp [h])
        have := waits_listed hcl ops.size i x oi hoi hdeps hw
        rw [hxl] at this
        cases this

/-- THE LAW: the values are walked once, in the order of the text (vs); then, whatever blocks the new variables have, the end (bs), one behind the other. -/
theorem wp_region_flow_vars {id : Nat} {a : Act} {w : World} (S : World → Prop) (vs news bs : List Nat) (zo : Nat → Obj) (hm : P.follows .mixedOrders = true) (hs : Region.noSelect ops = true) (hok : partsOk ops vs news bs = true)
    (hbnd : bs.Nodup) (hmono : Stays S) (hS : S w.drew)
    (hnew : ∀ i ∈ news, ∀ (a : Act) (w : World), ∃ o, ops[i]? = some o ∧ (execOp a.eval o).run P w = .ok (.value (.pointer (some ⟨w.heap.size, 0, none⟩))) (w.alloc (zo i)))
    (hlen : vs.length + news.length + bs.length ≤ ops.size)
    (h : FlowN P ops S (fun a' => ∀ (γ : Nat → Option Nat) (w' : World), S w' → News news w.heap.size zo γ w' → (∀ i ∈ news, γ i ≠ none) → wpOps P ops Q bs (putNew ops γ news a') w') vs a) : (Code.region id ops true).wp P Q a w := by
  obtain ⟨hall, hvs, hnews, hbs, hlt, hnd, hV, hN, hB⟩ := partsOk_spec hok
  refine wp_region_any hm ?_
  have hnone : putNew ops (fun _ => none) news a = a := by
    have : ∀ l : List Nat, putNew ops (fun _ => none) l a = a := fun l => by
      induction l with
      | nil => rfl
      | cons i r ih => exact ih
    exact this news
  have hl0 : ∀ i, (Array.replicate ops.size false).getD i false = false := fun i => by
    by_cases hi : i < ops.size <;> simp [hi]
  have := wpAny_vars (Q := Q) hmono (Region.noSelect_spec hs) hok hbnd (B0 := w.heap.size) hnew (fun a γ w' hd hS hn hg => hd γ w' hS hn hg) ops.size (Array.replicate ops.size false) a (fun _ => none) vs w.drew (by simp)
    (by have : (news.filter fun _ => true) = news := List.filter_eq_self.2 (by simp)
        simp only [Option.isNone_none, this]; exact hlen) hS (Nat.le_refl _) ⟨fun _ _ _ h => (by cases h), fun _ _ _ _ _ _ _ h => (by cases h)⟩ (fun i _ => by simp [hl0]) (fun i _ => hl0 i)
    (fun i o e hi => by rw [hl0] at hi; cases hi) h hlt (fun i hi => by simp [hl0, hi]) (fun i hi => hi)
  rw [hnone] at this
  exact this

/-- The operations of these numbers, written out. -/
def sel (ops : Array Oper) (vs : List Nat) : List Oper := vs.filterMap fun i => ops[i]?
theorem flowN_sel {D : Act → Prop} : ∀ (vs : List Nat) (a : Act), (∀ i ∈ vs, i < ops.size) → Flow P ops S D (sel ops vs) a → FlowN P ops S D vs a
  | [], _, _, h => h
  | i :: r, a, hin, h => by
    have hi := hin i (by simp)
    have hs : sel ops (i :: r) = ops[i] :: sel ops r := by
      unfold sel
      rw [List.filterMap_cons, Array.getElem?_eq_getElem hi]
    rw [hs] at h
    obtain ⟨v, hv, h⟩ := h
    exact ⟨_, v, Array.getElem?_eq_getElem hi, hv, flowN_sel r _ (fun j hj => hin j (List.mem_cons_of_mem _ hj)) h⟩
theorem wpOps_step {i : Nat} {rest : List Nat} {o : Oper} {a : Act} {w : World} (hi : ops[i]? = some o) (hw : Region.wanted o (yielded ops a.tmps) = true) (h : o.wp P a w (wpOps P ops Q rest) Q) : wpOps P ops Q (i :: rest) a w := by
  unfold wpOps
  simp only [hi, hw, if_true]
  exact .inl h
theorem wpOps_done {a : Act} {w : World} (h : Q .normal a w) : wpOps P ops Q [] a w := h
end
end Go.Proofs.YtibbinenhmiclaaDoor
